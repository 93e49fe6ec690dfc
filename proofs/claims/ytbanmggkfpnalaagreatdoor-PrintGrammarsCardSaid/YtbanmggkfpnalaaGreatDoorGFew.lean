/- Few: what gobolaw6.size and gobolaw11.patSize tell of trees. -/
import Derived.Test.YtbanmggkfpnalaaGreatDoorArgIntss
import Derived.Test.YtbanmggkfpnalaaGreatDoorGRefP
import Derived.Test.YtbanmggkfpnalaaGreatDoorGChk
set_option linter.unusedVariables false
set_option linter.unusedSimpArgs false
namespace Go.Proofs.YtbanmggkfpnalaaGreatDoor
open Go.RowKit Go.ChangeShapes Go.WideShapes Go.ChangeAt Go.Deep Go.Joins

inductive RE.Raw : RE → Prop
  | mk (k : Int) (s : List (Int × Int)) (l : List RE) (hs : i32s s) (h : ∀ (i : Nat) (e : RE), l[i]? = some e → RE.Raw e) : RE.Raw (.mk k s l)
theorem RE.Raw.sets {e : RE} (h : e.Raw) : i32s e.set := by cases h; assumption
theorem RE.Raw.part {e p : RE} {i : Nat} (h : e.Raw) (hp : e.parts[i]? = some p) : p.Raw := by cases h with | mk k s l hs h => exact h i p hp
theorem len2 {α : Type} {l : List α} (h : l.length = 2) : ∃ a b, l = [a, b] := by
  match l, h with
  | [a, b], _ => exact ⟨a, b, rfl⟩
theorem len3 {α : Type} {l : List α} (h : l.length = 3) : ∃ a b c, l = [a, b, c] := by
  match l, h with
  | [a, b, c], _ => exact ⟨a, b, c, rfl⟩
theorem len4 {α : Type} {l : List α} (h : l.length = 4) : ∃ a b c d, l = [a, b, c, d] := by
  match l, h with
  | [a, b, c, d], _ => exact ⟨a, b, c, d, rfl⟩
theorem len5 {α : Type} {l : List α} (h : l.length = 5) : ∃ a b c d e, l = [a, b, c, d, e] := by
  match l, h with
  | [a, b, c, d, e], _ => exact ⟨a, b, c, d, e, rfl⟩
theorem len6 {α : Type} {l : List α} (h : l.length = 6) : ∃ a b c d e f, l = [a, b, c, d, e, f] := by
  match l, h with
  | [a, b, c, d, e, f], _ => exact ⟨a, b, c, d, e, f, rfl⟩
theorem fm_inv {α : Type} (f : α → List Value) (W : Nat) : ∀ (l : List α) (j : Nat) (u : Value), (∀ a ∈ l, (f a).length = W) → (l.flatMap f)[j]? = some u → ∃ i a r, l[i]? = some a ∧ j = i * W + r ∧ r < W ∧ (f a)[r]? = some u := by
  intro l
  induction l with
  | nil => intro j u _ h; simp at h
  | cons x l ih =>
    intro j u hW h
    have hx := hW x (by simp)
    rw [List.flatMap_cons] at h
    rcases Nat.lt_or_ge j W with hj | hj
    · rw [List.getElem?_append_left (by omega)] at h
      exact ⟨0, x, j, rfl, by omega, hj, h⟩
    · rw [List.getElem?_append_right (by omega), hx] at h
      obtain ⟨i, a, r, h1, h2, h3, h4⟩ := ih (j - W) u (fun a ha => hW a (by simp [ha])) h
      exact ⟨i + 1, a, r, by simpa using h1, by rw [Nat.succ_mul]; omega, h3, h4⟩
theorem flat_eq {α : Type} {f : α → List Value} : ∀ (ps : List (List Value × α)), (∀ p ∈ ps, p.1 = f p.2) → ps.flatMap (·.1) = (ps.map (·.2)).flatMap f := by
  intro ps
  induction ps with
  | nil => intro _; rfl
  | cons p ps ih => intro h; rw [List.flatMap_cons, List.map_cons, List.flatMap_cons, h p (by simp), ih fun q hq => h q (by simp [hq])]
section
variable {H : Type} {enc : TypeId × Value → H} {W : World}
theorem trod_row {P : Program} {t e : TypeId} {fuel : Nat} {v : Value} {x : DataW H × List MemPlace} {α : Type} [Inhabited α] (C : Nat) (Q : List Value → α → Prop)
    (ht : P.underlying t = some (.slice e)) (hC : P.cellsOf e = C) (hC0 : 0 < C)
    (hf : DataW.trod enc P W 0 (fun _ => true) true fuel t [v] = some x) (hlt : ∀ y ∈ x.2, y.block < W.heap.size)
    (hq : ∀ n cs y, n < fuel → DataW.trod enc P W 0 (fun _ => true) true n e cs = some y → (∀ z ∈ y.2, z.block < W.heap.size) → ∃ a, Q cs a) :
    ∃ ps : List (List Value × α), Row W v ps.length (ps.flatMap (·.1)) ∧ ∀ p ∈ ps, p.1.length = C ∧ Q p.1 p.2 := by
  rcases DataW.trod_slice ht hf with ⟨hcs, hx⟩ | ⟨a, len, cap, elems, rest, n, rfl, hcs, hx, _, hl, hm, hlen, hel, _, _⟩
  · simp at hcs
    subst hcs
    exact ⟨[], Row.nil W, by simp⟩
  · simp at hcs
    subst hcs
    obtain ⟨F, hF⟩ := choose_lt (α := List Value × α) (n := len) (p := fun i p => W.cells? 0 (a.add (i * C)) C = some p.1 ∧ p.1.length = C ∧ Q p.1 p.2) (fun i hi => by
      have h1 := hel i hi
      rw [hC, List.getElem?_eq_getElem (by omega)] at h1
      obtain ⟨cs', h2, h3⟩ := Option.bind_eq_some_iff.1 h1
      obtain ⟨_, hl', _⟩ := World.cells?_some h2
      obtain ⟨q, hq'⟩ := hq n cs' _ (by omega) h3 (fun z hz => hlt z (by rw [hx]; exact List.mem_append.2 (.inr (List.mem_flatMap.2 ⟨elems[i], List.mem_append.2 (.inl (List.getElem_mem _)), hz⟩))))
      exact ⟨(cs', q), h2, hl', hq'⟩)
    refine ⟨(List.range len).map F, ?_, fun p hp => ?_⟩
    · rw [show ((List.range len).map F).length = len by simp]
      refine ⟨some a, cap, rfl, hl, hm, ?_⟩
      by_cases hl0 : len = 0
      · exact .inl ⟨hl0, fun h => by cases h⟩
      · obtain ⟨b, off, spot⟩ := a
        obtain ⟨h01, h02, _⟩ := hF 0 (by omega)
        have hc0 := (World.cells?_some h01).2.2 0 hC0
        rw [List.getElem?_eq_getElem (by omega)] at hc0
        have hspot : spot = none := by simpa [Addr.add] using World.cell?_spot hc0
        subst hspot
        have hbW : b < W.heap.size := hlt (.cell b off) (by
          rw [hx]
          exact List.mem_append.2 (.inl (MemPlace.mem_row.2 ⟨0, by rw [hC]; exact Nat.mul_pos (by omega) hC0, by simp⟩)))
        refine .inr ⟨b, off, rfl, hbW, fun j u hj => ?_⟩
        obtain ⟨i, q, r, hi, rfl, hr, hu⟩ := fm_inv (fun p : List Value × α => p.1) C _ j u (fun q hq => by
          obtain ⟨i, hi, rfl⟩ := List.mem_map.1 hq
          exact (hF i (by simpa using hi)).2.1) hj
        have hil : i < len := by simpa using (List.getElem?_eq_some_iff.1 hi).1
        have hq : F i = q := by simpa [hil] using hi
        subst hq
        have := (World.cells?_some (hF i hil).1).2.2 r hr
        rw [WideShapes.add_plain, WideShapes.add_plain, Nat.add_assoc] at this
        rw [this]; exact hu
    · obtain ⟨i, hi, rfl⟩ := List.mem_map.1 hp
      exact (hF i (by simpa using hi)).2
theorem fld {P : Program} {n o c : Nat} {t : TypeId} {cs : List Value} {r : Option (DataW H × List MemPlace)} (g : DataW.trod enc P W 0 (fun _ => true) true n t ((cs.drop o).take (P.cellsOf t)) = r) (hc : P.cellsOf t = c) : DataW.trod enc P W 0 (fun _ => true) true n t ((cs.drop o).take c) = r := by rw [hc] at g; exact g
theorem c1int : Tryz.prog.cellsOf 3 = 1 := by kernel_rfl
theorem c1i32 : Tryz.prog.cellsOf 21 = 1 := by kernel_rfl
theorem c1bool : Tryz.prog.cellsOf 4 = 1 := by kernel_rfl
theorem c1str : Tryz.prog.cellsOf 9 = 1 := by kernel_rfl
theorem c1strs : Tryz.prog.cellsOf 44 = 1 := by kernel_rfl
theorem c1rngs : Tryz.prog.cellsOf 22 = 1 := by kernel_rfl
theorem c1res : Tryz.prog.cellsOf 23 = 1 := by kernel_rfl
theorem c1pats : Tryz.prog.cellsOf 45 = 1 := by kernel_rfl
theorem c1stps : Tryz.prog.cellsOf 62 = 1 := by kernel_rfl
theorem c2rng : Tryz.prog.cellsOf 53 = 2 := by kernel_rfl
theorem c3re : Tryz.prog.cellsOf 25 = 3 := by kernel_rfl
theorem c4pat : Tryz.prog.cellsOf 47 = 4 := by kernel_rfl
theorem c6tok : Tryz.prog.cellsOf 61 = 6 := by kernel_rfl
theorem c5stp : Tryz.prog.cellsOf 66 = 5 := by kernel_rfl
theorem c3rul : Tryz.prog.cellsOf 64 = 3 := by kernel_rfl
theorem c2gra : Tryz.prog.cellsOf 35 = 2 := by kernel_rfl
theorem i32_of {n : Int} (h : (Lit.int .i32 n).wf = true) : -2147483648 ≤ n ∧ n ≤ 2147483647 := by
  simp only [Lit.wf, Bool.and_eq_true, decide_eq_true_eq] at h
  exact ⟨h.1, by have := h.2; exact this⟩
set_option maxRecDepth 100000 in
theorem read_rngs {fuel : Nat} {v : Value} {x : DataW H × List MemPlace} (hf : DataW.trod enc Tryz.prog W 0 (fun _ => true) true fuel 22 [v] = some x) (hlt : ∀ y ∈ x.2, y.block < W.heap.size) :
    ∃ s : List (Int × Int), Row W v s.length (flatK .i32 s) ∧ i32s s := by
  obtain ⟨ps, h1, h2⟩ := trod_row (α := Int × Int) 2 (fun cs p => cs = [.int .i32 p.1, .int .i32 p.2] ∧ (-2147483648 ≤ p.1 ∧ p.1 ≤ 2147483647) ∧ (-2147483648 ≤ p.2 ∧ p.2 ≤ 2147483647)) Tryz.underlying22 c2rng (by omega) hf hlt (fun n cs y hn hy hl => by
    obtain ⟨xs, m, rfl, hx, hcl, hxl, hg⟩ := DataW.trod_struct Tryz.underlying53 hy
    rw [c2rng] at hcl
    obtain ⟨a0, a1, rfl⟩ := len2 hcl
    obtain ⟨y0, y1, rfl⟩ := len2 hxl
    have g0 : DataW.trod enc Tryz.prog W 0 (fun _ => true) true m 21 [a0] = some y0 := fld (o := 0) (cs := [a0, a1]) (hg 0 _ rfl) c1i32
    have g1 : DataW.trod enc Tryz.prog W 0 (fun _ => true) true m 21 [a1] = some y1 := fld (o := 1) (cs := [a0, a1]) (hg 1 _ rfl) c1i32
    obtain ⟨z0, e0, _, w0⟩ := DataW.trod_int Tryz.underlying21 g0
    obtain ⟨z1, e1, _, w1⟩ := DataW.trod_int Tryz.underlying21 g1
    simp at e0 e1
    subst e0 e1
    exact ⟨(z0, z1), rfl, i32_of w0, i32_of w1⟩)
  refine ⟨ps.map (·.2), ?_, fun p hp => ?_⟩
  · rw [List.length_map, flatK, ← flat_eq ps fun p hp => (h2 p hp).2.1]; exact h1
  · obtain ⟨q, hq, rfl⟩ := List.mem_map.1 hp
    exact (h2 q hq).2.2
set_option maxRecDepth 100000 in
theorem read_strs {fuel : Nat} {v : Value} {x : DataW H × List MemPlace} (hf : DataW.trod enc Tryz.prog W 0 (fun _ => true) true fuel 44 [v] = some x) (hlt : ∀ y ∈ x.2, y.block < W.heap.size) :
    ∃ l : List ByteArray, Row W v l.length (strs l) := by
  obtain ⟨ps, h1, h2⟩ := trod_row (α := ByteArray) 1 (fun cs s => cs = [.string s]) Tryz.underlying44 c1str (by omega) hf hlt (fun n cs y hn hy hl => by
    obtain ⟨s, e0, _, w0⟩ := DataW.trod_string Tryz.underlying9 hy
    exact ⟨s, e0⟩)
  refine ⟨ps.map (·.2), ?_⟩
  have e := flat_eq (f := fun s : ByteArray => [Value.string s]) ps fun p hp => (h2 p hp).2
  have e2 : ∀ l : List ByteArray, (l.flatMap fun s => [Value.string s]) = strs l := fun l => by
    unfold strs
    induction l with
    | nil => rfl
    | cons a l ih => rw [List.flatMap_cons, ih]; rfl
  rw [e2] at e
  rw [List.length_map, ← e]; exact h1
set_option maxRecDepth 100000 in
theorem read_re : ∀ (fuel : Nat) (cs : List Value) (x : DataW H × List MemPlace), DataW.trod enc Tryz.prog W 0 (fun _ => true) true fuel 25 cs = some x → (∀ y ∈ x.2, y.block < W.heap.size) →
    ∃ p : RE × Value × Value, cs = [.int .i64 p.1.kind, p.2.1, p.2.2] ∧ ReIs W p.1 p.2.1 p.2.2 ∧ p.1.Raw := by
  intro fuel
  induction fuel using Nat.strongRecOn with
  | _ fuel ih =>
    intro cs x h hlt
    obtain ⟨xs, n, rfl, rfl, hcl, hxl, hg⟩ := DataW.trod_struct Tryz.underlying25 h
    rw [c3re] at hcl
    obtain ⟨a0, a1, a2, rfl⟩ := len3 hcl
    obtain ⟨y0, y1, y2, rfl⟩ := len3 hxl
    have g0 : DataW.trod enc Tryz.prog W 0 (fun _ => true) true n 3 [a0] = some y0 := fld (o := 0) (cs := [a0, a1, a2]) (hg 0 _ rfl) c1int
    have g1 : DataW.trod enc Tryz.prog W 0 (fun _ => true) true n 22 [a1] = some y1 := fld (o := 1) (cs := [a0, a1, a2]) (hg 1 _ rfl) c1rngs
    have g2 : DataW.trod enc Tryz.prog W 0 (fun _ => true) true n 23 [a2] = some y2 := fld (o := 2) (cs := [a0, a1, a2]) (hg 2 _ rfl) c1res
    obtain ⟨k, e0, _, w0⟩ := DataW.trod_int Tryz.underlying3 g0
    simp at e0
    subst e0
    obtain ⟨s, hs, hz⟩ := read_rngs g1 (fun y hy => hlt y (by simp [hy]))
    letI : Inhabited (RE × Value × Value) := ⟨(.mk 0 [] [], .nilIface, .nilIface)⟩
    obtain ⟨ps, h1, h2⟩ := trod_row (α := RE × Value × Value) 3 (fun cs p => cs = [.int .i64 p.1.kind, p.2.1, p.2.2] ∧ ReIs W p.1 p.2.1 p.2.2 ∧ p.1.Raw) Tryz.underlying23 c3re (by omega) g2 (fun y hy => hlt y (by simp [hy])) (fun m cs y hm hy hl => ih m (by omega) cs y hy hl)
    have hget : ∀ (i : Nat) (e : RE) (p : Int × Value × Value), (ps.map fun q => q.2.1)[i]? = some e → (ps.map fun q => (q.2.1.kind, q.2.2.1, q.2.2.2))[i]? = some p → ∃ q ∈ ps, e = q.2.1 ∧ p = (q.2.1.kind, q.2.2.1, q.2.2.2) := by
      intro i e p he hp
      rw [List.getElem?_map] at he hp
      obtain ⟨q, hq, rfl⟩ := Option.map_eq_some_iff.1 he
      rw [hq] at hp
      simp at hp
      exact ⟨q, List.mem_of_getElem? hq, rfl, hp.symm⟩
    refine ⟨(.mk k s (ps.map fun q => q.2.1), a1, a2), rfl, .mk k s _ a1 a2 (ps.map fun q => (q.2.1.kind, q.2.2.1, q.2.2.2)) hs ?_ (by simp) ?_ ?_, .mk k s _ hz ?_⟩
    · rw [List.length_map]
      have e := flat_eq (f := fun p : RE × Value × Value => [Value.int .i64 p.1.kind, p.2.1, p.2.2]) ps fun p hp => (h2 p hp).2.1
      have e2 : trip (ps.map fun q => (q.2.1.kind, q.2.2.1, q.2.2.2)) = (ps.map (·.2)).flatMap fun p : RE × Value × Value => [Value.int .i64 p.1.kind, p.2.1, p.2.2] := by
        unfold trip; rw [List.flatMap_map, List.flatMap_map]
      rw [e2, ← e]; exact h1
    · intro i e p he hp
      obtain ⟨q, _, rfl, rfl⟩ := hget i e p he hp
      rfl
    · intro i e p he hp
      obtain ⟨q, hq, rfl, rfl⟩ := hget i e p he hp
      exact (h2 q hq).2.2.1
    · intro i e he
      rw [List.getElem?_map] at he
      obtain ⟨q, hq, rfl⟩ := Option.map_eq_some_iff.1 he
      exact (h2 q (List.mem_of_getElem? hq)).2.2.2
set_option maxRecDepth 100000 in
theorem read_pt : ∀ (fuel : Nat) (cs : List Value) (x : DataW H × List MemPlace), DataW.trod enc Tryz.prog W 0 (fun _ => true) true fuel 47 cs = some x → (∀ y ∈ x.2, y.block < W.heap.size) →
    ∃ p : PT × Value × Value × Value, cs = [.int .i64 p.1.kind, p.2.1, p.2.2.1, p.2.2.2] ∧ PtIs W p.1 p.2.1 p.2.2.1 p.2.2.2 := by
  intro fuel
  induction fuel using Nat.strongRecOn with
  | _ fuel ih =>
    intro cs x h hlt
    obtain ⟨xs, n, rfl, rfl, hcl, hxl, hg⟩ := DataW.trod_struct Tryz.underlying47 h
    rw [c4pat] at hcl
    obtain ⟨a0, a1, a2, a3, rfl⟩ := len4 hcl
    obtain ⟨y0, y1, y2, y3, rfl⟩ := len4 hxl
    have g0 : DataW.trod enc Tryz.prog W 0 (fun _ => true) true n 3 [a0] = some y0 := fld (o := 0) (cs := [a0, a1, a2, a3]) (hg 0 _ rfl) c1int
    have g1 : DataW.trod enc Tryz.prog W 0 (fun _ => true) true n 44 [a1] = some y1 := fld (o := 1) (cs := [a0, a1, a2, a3]) (hg 1 _ rfl) c1strs
    have g2 : DataW.trod enc Tryz.prog W 0 (fun _ => true) true n 44 [a2] = some y2 := fld (o := 2) (cs := [a0, a1, a2, a3]) (hg 2 _ rfl) c1strs
    have g3 : DataW.trod enc Tryz.prog W 0 (fun _ => true) true n 45 [a3] = some y3 := fld (o := 3) (cs := [a0, a1, a2, a3]) (hg 3 _ rfl) c1pats
    obtain ⟨k, e0, _, w0⟩ := DataW.trod_int Tryz.underlying3 g0
    simp at e0
    subst e0
    obtain ⟨s, hs⟩ := read_strs g1 (fun y hy => hlt y (by simp [hy]))
    obtain ⟨t, ht⟩ := read_strs g2 (fun y hy => hlt y (by simp [hy]))
    letI : Inhabited (PT × Value × Value × Value) := ⟨(.mk 0 [] [] [], .nilIface, .nilIface, .nilIface)⟩
    obtain ⟨ps, h1, h2⟩ := trod_row (α := PT × Value × Value × Value) 4 (fun cs p => cs = [.int .i64 p.1.kind, p.2.1, p.2.2.1, p.2.2.2] ∧ PtIs W p.1 p.2.1 p.2.2.1 p.2.2.2) Tryz.underlying45 c4pat (by omega) g3 (fun y hy => hlt y (by simp [hy])) (fun m cs y hm hy hl => ih m (by omega) cs y hy hl)
    have hget : ∀ (i : Nat) (e : PT) (p : Int × Value × Value × Value), (ps.map fun q => q.2.1)[i]? = some e → (ps.map fun q => (q.2.1.kind, q.2.2.1, q.2.2.2.1, q.2.2.2.2))[i]? = some p → ∃ q ∈ ps, e = q.2.1 ∧ p = (q.2.1.kind, q.2.2.1, q.2.2.2.1, q.2.2.2.2) := by
      intro i e p he hp
      rw [List.getElem?_map] at he hp
      obtain ⟨q, hq, rfl⟩ := Option.map_eq_some_iff.1 he
      rw [hq] at hp
      simp at hp
      exact ⟨q, List.mem_of_getElem? hq, rfl, hp.symm⟩
    refine ⟨(.mk k s t (ps.map fun q => q.2.1), a1, a2, a3), rfl, .mk k s t _ a1 a2 a3 (ps.map fun q => (q.2.1.kind, q.2.2.1, q.2.2.2.1, q.2.2.2.2)) hs ht ?_ (by simp) ?_ ?_⟩
    · rw [List.length_map]
      have e := flat_eq (f := fun p : PT × Value × Value × Value => [Value.int .i64 p.1.kind, p.2.1, p.2.2.1, p.2.2.2]) ps fun p hp => (h2 p hp).2.1
      have e2 : quad (ps.map fun q => (q.2.1.kind, q.2.2.1, q.2.2.2.1, q.2.2.2.2)) = (ps.map (·.2)).flatMap fun p : PT × Value × Value × Value => [Value.int .i64 p.1.kind, p.2.1, p.2.2.1, p.2.2.2] := by
        unfold quad; rw [List.flatMap_map, List.flatMap_map]
      rw [e2, ← e]; exact h1
    · intro i e p he hp
      obtain ⟨q, _, rfl, rfl⟩ := hget i e p he hp
      rfl
    · intro i e p he hp
      obtain ⟨q, hq, rfl, rfl⟩ := hget i e p he hp
      exact (h2 q hq).2.2
def TRaw (T : List TK) : Prop := ∀ (i : Nat) (t : TK), T[i]? = some t → t.re.Raw
set_option maxRecDepth 100000 in
theorem read_toks {fuel : Nat} {v : Value} {x : DataW H × List MemPlace} (hf : DataW.trod enc Tryz.prog W 0 (fun _ => true) true fuel 32 [v] = some x) (hlt : ∀ y ∈ x.2, y.block < W.heap.size) :
    ∃ T : List TK, TksAre W v T ∧ TRaw T := by
  letI : Inhabited (TK × Value × Value) := ⟨(⟨⟨#[]⟩, 0, 0, .mk 0 [] []⟩, .nilIface, .nilIface)⟩
  obtain ⟨ps, h1, h2⟩ := trod_row (α := TK × Value × Value) 6 (fun cs p => cs = six p ∧ ReIs W p.1.re p.2.1 p.2.2 ∧ p.1.re.Raw) Tryz.underlying32 c6tok (by omega) hf hlt (fun n cs y hn hy hl => by
    obtain ⟨xs, m, rfl, rfl, hcl, hxl, hg⟩ := DataW.trod_struct Tryz.underlying61 hy
    rw [c6tok] at hcl
    obtain ⟨a0, a1, a2, a3, a4, a5, rfl⟩ := len6 hcl
    obtain ⟨y0, y1, y2, y3, rfl⟩ := len4 hxl
    have g0 : DataW.trod enc Tryz.prog W 0 (fun _ => true) true m 9 [a0] = some y0 := fld (o := 0) (cs := [a0, a1, a2, a3, a4, a5]) (hg 0 _ rfl) c1str
    have g1 : DataW.trod enc Tryz.prog W 0 (fun _ => true) true m 3 [a1] = some y1 := fld (o := 1) (cs := [a0, a1, a2, a3, a4, a5]) (hg 1 _ rfl) c1int
    have g2 : DataW.trod enc Tryz.prog W 0 (fun _ => true) true m 3 [a2] = some y2 := fld (o := 2) (cs := [a0, a1, a2, a3, a4, a5]) (hg 2 _ rfl) c1int
    have g3 : DataW.trod enc Tryz.prog W 0 (fun _ => true) true m 25 [a3, a4, a5] = some y3 := fld (o := 3) (cs := [a0, a1, a2, a3, a4, a5]) (hg 3 _ rfl) c3re
    obtain ⟨s, e0, _, _⟩ := DataW.trod_string Tryz.underlying9 g0
    obtain ⟨k, e1, _, _⟩ := DataW.trod_int Tryz.underlying3 g1
    obtain ⟨c, e2, _, _⟩ := DataW.trod_int Tryz.underlying3 g2
    simp at e0 e1 e2
    subst e0 e1 e2
    obtain ⟨⟨e, sv, lv⟩, hcs, hr, hw⟩ := read_re _ _ _ g3 (fun y hy => hl y (by simp [hy]))
    simp at hcs
    obtain ⟨rfl, rfl, rfl⟩ := hcs
    exact ⟨(⟨s, k, c, e⟩, a4, a5), rfl, hr, hw⟩)
  refine ⟨ps.map fun q => q.2.1, ⟨ps.map (·.2), by simp, ?_, fun i p hp => ?_⟩, fun i t ht => ?_⟩
  · rw [List.length_map, ← flat_eq ps fun p hp => (h2 p hp).2.1]; exact h1
  · rw [List.getElem?_map] at hp
    obtain ⟨q, hq, rfl⟩ := Option.map_eq_some_iff.1 hp
    exact (h2 q (List.mem_of_getElem? hq)).2.2.1
  · rw [List.getElem?_map] at ht
    obtain ⟨q, hq, rfl⟩ := Option.map_eq_some_iff.1 ht
    exact (h2 q (List.mem_of_getElem? hq)).2.2.2
set_option maxRecDepth 100000 in
theorem read_stps {fuel : Nat} {v : Value} {x : DataW H × List MemPlace} (hf : DataW.trod enc Tryz.prog W 0 (fun _ => true) true fuel 62 [v] = some x) (hlt : ∀ y ∈ x.2, y.block < W.heap.size) :
    ∃ L : List ST, StsAre W v L := by
  letI : Inhabited (ST × Value × Value × Value × Value) := ⟨(⟨[], .mk 0 [] [] []⟩, .nilIface, .nilIface, .nilIface, .nilIface)⟩
  obtain ⟨ps, h1, h2⟩ := trod_row (α := ST × Value × Value × Value × Value) 5 (fun cs p => cs = five p ∧ Row W p.2.1 p.1.calls.length (strs p.1.calls) ∧ PtIs W p.1.p p.2.2.1 p.2.2.2.1 p.2.2.2.2) Tryz.underlying62 c5stp (by omega) hf hlt (fun n cs y hn hy hl => by
    obtain ⟨xs, m, rfl, rfl, hcl, hxl, hg⟩ := DataW.trod_struct Tryz.underlying66 hy
    rw [c5stp] at hcl
    obtain ⟨a0, a1, a2, a3, a4, rfl⟩ := len5 hcl
    obtain ⟨y0, y1, rfl⟩ := len2 hxl
    have g0 : DataW.trod enc Tryz.prog W 0 (fun _ => true) true m 44 [a0] = some y0 := fld (o := 0) (cs := [a0, a1, a2, a3, a4]) (hg 0 _ rfl) c1strs
    have g1 : DataW.trod enc Tryz.prog W 0 (fun _ => true) true m 47 [a1, a2, a3, a4] = some y1 := fld (o := 1) (cs := [a0, a1, a2, a3, a4]) (hg 1 _ rfl) c4pat
    obtain ⟨s, hs⟩ := read_strs g0 (fun y hy => hl y (by simp [hy]))
    obtain ⟨⟨e, nv, ev, lv⟩, hcs, hr⟩ := read_pt _ _ _ g1 (fun y hy => hl y (by simp [hy]))
    simp at hcs
    obtain ⟨rfl, rfl, rfl, rfl⟩ := hcs
    exact ⟨(⟨s, e⟩, a0, a2, a3, a4), rfl, hs, hr⟩)
  refine ⟨ps.map fun q => q.2.1, ps.map (·.2), by simp, ?_, fun i p hp => ?_⟩
  · rw [List.length_map, ← flat_eq ps fun p hp => (h2 p hp).2.1]; exact h1
  · rw [List.getElem?_map] at hp
    obtain ⟨q, hq, rfl⟩ := Option.map_eq_some_iff.1 hp
    exact (h2 q (List.mem_of_getElem? hq)).2.2
set_option maxRecDepth 100000 in
theorem read_ruls {fuel : Nat} {v : Value} {x : DataW H × List MemPlace} (hf : DataW.trod enc Tryz.prog W 0 (fun _ => true) true fuel 33 [v] = some x) (hlt : ∀ y ∈ x.2, y.block < W.heap.size) :
    ∃ R : List RU, RusAre W v R := by
  letI : Inhabited (RU × Value) := ⟨(⟨0, false, []⟩, .nilIface)⟩
  obtain ⟨ps, h1, h2⟩ := trod_row (α := RU × Value) 3 (fun cs p => cs = three p ∧ StsAre W p.2 p.1.steps) Tryz.underlying33 c3rul (by omega) hf hlt (fun n cs y hn hy hl => by
    obtain ⟨xs, m, rfl, rfl, hcl, hxl, hg⟩ := DataW.trod_struct Tryz.underlying64 hy
    rw [c3rul] at hcl
    obtain ⟨a0, a1, a2, rfl⟩ := len3 hcl
    obtain ⟨y0, y1, y2, rfl⟩ := len3 hxl
    have g0 : DataW.trod enc Tryz.prog W 0 (fun _ => true) true m 3 [a0] = some y0 := fld (o := 0) (cs := [a0, a1, a2]) (hg 0 _ rfl) c1int
    have g1 : DataW.trod enc Tryz.prog W 0 (fun _ => true) true m 4 [a1] = some y1 := fld (o := 1) (cs := [a0, a1, a2]) (hg 1 _ rfl) c1bool
    have g2 : DataW.trod enc Tryz.prog W 0 (fun _ => true) true m 62 [a2] = some y2 := fld (o := 2) (cs := [a0, a1, a2]) (hg 2 _ rfl) c1stps
    obtain ⟨k, e0, _, _⟩ := DataW.trod_int Tryz.underlying3 g0
    obtain ⟨b, e1, _⟩ := DataW.trod_bool Tryz.underlying4 g1
    simp at e0 e1
    subst e0 e1
    obtain ⟨L, hL⟩ := read_stps g2 (fun y hy => hl y (by simp [hy]))
    exact ⟨(⟨k, b, L⟩, a2), rfl, hL⟩)
  refine ⟨ps.map fun q => q.2.1, ps.map (·.2), by simp, ?_, fun i p hp => ?_⟩
  · rw [List.length_map, ← flat_eq ps fun p hp => (h2 p hp).2.1]; exact h1
  · rw [List.getElem?_map] at hp
    obtain ⟨q, hq, rfl⟩ := Option.map_eq_some_iff.1 hp
    exact (h2 q (List.mem_of_getElem? hq)).2.2
set_option maxRecDepth 100000 in
theorem arg_gram {r : Reach} {b0 : Nat} {v : Value} {d : DataW H} {ps : List MemPlace} (hval : Value.okWide Tryz.prog W r b0 35 v) (h : DataW.Trod enc Tryz.prog W 0 (fun _ => true) true 35 v d ps) (hlt : ∀ x ∈ ps, x.block < W.heap.size) :
    ∃ (T : List TK) (R : List RU) (tv rv : Value), v = .agg #[tv, rv] ∧ TksAre W tv T ∧ RusAre W rv R ∧ TRaw T := by
  obtain ⟨v0, v1, y0, y1, n, rfl, rfl, rfl, h0, h1⟩ := open_agg2 Tryz.underlying35 (by kernel_rfl) c2gra hval h
  obtain ⟨T, hT, hTr⟩ := read_toks h0 (fun y hy => hlt y (by simp [hy]))
  obtain ⟨R, hR⟩ := read_ruls h1 (fun y hy => hlt y (by simp [hy]))
  exact ⟨T, R, v0, v1, rfl, hT, hR, hTr⟩
end
end Go.Proofs.YtbanmggkfpnalaaGreatDoor

namespace Go.Proofs.YtbanmggkfpnalaaGreatDoor
open Go.RowKit Ru

namespace RE
theorem sizes_snoc : ∀ (l : List RE) (e : RE), sizes (l ++ [e]) = sizes l + e.size := by
  intro l
  induction l with
  | nil => intro e; rw [List.nil_append, sizes_cons, sizes_nil]; omega
  | cons a l ih => intro e; rw [List.cons_append, sizes_cons, ih, sizes_cons]; omega
theorem size_sizes (e : RE) : e.size = sizes e.parts + 1 := by cases e; rw [size_mk]; rfl
theorem take_snoc {l : List RE} {k : Nat} {p : RE} (h : l[k]? = some p) : l.take (k + 1) = l.take k ++ [p] := by rw [List.take_add_one, h]; rfl
theorem len_sizes : ∀ l : List RE, l.length ≤ sizes l := by
  intro l
  induction l with
  | nil => simp
  | cons a l ih => rw [sizes_cons, List.length_cons]; have := a.size_pos; omega
end RE
theorem PT.len_sizes : ∀ l : List PT, l.length ≤ PT.sizes l := by
  intro l
  induction l with
  | nil => simp
  | cons a l ih => rw [PT.sizes_cons, List.length_cons]; have := a.size_pos; omega

def SzPost (e : RE) (x : Ending) : Prop := ∃ r : Nat, x = .returned (.int .i64 (r : Int)) ∧ 1 ≤ r ∧ r ≤ 201 ∧ (r ≤ 200 → r = e.size ∧ e.Fit)
def SzIh (w0 : World) (N : Nat) : Prop := ∀ (e : RE) (sv lv : Value) (d : Nat) (w : World), e.size ≤ N → e.Raw → ReIs w0 e sv lv → Below w0.heap.size w0 w → d ≤ 17 →
  Calls Tryz.prog 18 #[.agg #[.int .i64 e.kind, sv, lv], .int .i64 (d : Int)] w fun x w' => SzPost e x ∧ Below w.heap.size w w'
set_option maxHeartbeats 8000000 in
set_option maxRecDepth 100000 in
theorem sz_all (w0 : World) : ∀ N, SzIh w0 N := by
  intro N
  induction N with
  | zero => intro e sv lv d w hs; have := e.size_pos; omega
  | succ N ih =>
    intro e sv lv d w hs hf hr hb0 hd
    obtain ⟨⟨o1, q1, rfl⟩, -⟩ := hr.form
    obtain ⟨o2, q2, c1, c2, rfl, hall⟩ := hr.all
    have HALL := Lib.hid hall
    have hin : ∀ (i : Nat) (p : RE) (w' : World), d ≤ 16 → e.parts[i]? = some p → Below w.heap.size w w' → Calls Tryz.prog 18 #[.agg #[.int .i64 p.kind, c1 i, c2 i], .int .i64 ((d : Int) + 1)] w' fun x w'' => SzPost p x ∧ Below w'.heap.size w' w'' := by
      intro i p w' hd' hp hb
      exact ih p _ _ (d + 1) w' (by have := RE.size_part hp; omega) (hf.part hp) (hall i p hp).1 (bel_then hb0 hb) (by omega)
    have HIN := Lib.hid hin
    have HB0 := Lib.hid hb0
    have HF := Lib.hid hf
    have HSZ := Lib.hid (RE.size_sizes e)
    clear hall hin hr hb0 ih hs hf
    obtain ⟨n, hn⟩ : ∃ n, n = e.parts.length := ⟨_, rfl⟩
    rw [← hn]
    have HNN := Lib.hid hn
    clear hn
    obtain ⟨ns, hns⟩ : ∃ n, n = e.set.length := ⟨_, rfl⟩
    rw [← hns]
    have HNS := Lib.hid hns
    clear hns
    obtain ⟨wB, hwB⟩ : ∃ wB, wB = w.alloc (.cells #[.int .i64 e.kind, .slice o1 ns q1, .slice o2 n q2] 25) := ⟨_, rfl⟩
    have HWB := Lib.hid (show Below w.heap.size w wB ∧ wB.cell? ⟨w.heap.size, 1, none⟩ = some (.slice o1 ns q1) ∧ wB.cell? ⟨w.heap.size, 2, none⟩ = some (.slice o2 n q2) by rw [hwB]; exact ⟨bel_new (Below.refl _ _) _, by simp [go_sem], by simp [go_sem]⟩)
    by_cases h1 : 16 < d
    · have d1 : decide ((16 : Int) < (d : Int)) = true := by simp; omega
      have d2 : decide (16 < d) = true := by simp; omega
      go_enter Tryz.func18, Tryz.ntmps18
      go_wp2_with fail
      go_ret
      exact ⟨⟨201, rfl, by omega, by omega, fun h => by omega⟩, by rw [← hwB]; exact HWB.out.1⟩
    have d1 : decide ((16 : Int) < (d : Int)) = false := by simp; omega
    have d2 : decide (16 < d) = false := by simp; omega
    have hdw : IntKind.i64.wrap ((d : Int) + 1) = (d : Int) + 1 := IntWalk.i64_in _ (by omega)
    by_cases h2 : 30 < ns
    · have d3 : decide ((30 : Int) < (ns : Int)) = true := by simp; omega
      have d4 : decide (30 < ns) = true := by simp; omega
      go_enter Tryz.func18, Tryz.ntmps18
      go_wp2_with fail
      go_ret
      exact ⟨⟨201, rfl, by omega, by omega, fun h => by omega⟩, by rw [← hwB]; exact HWB.out.1⟩
    have d3 : decide ((30 : Int) < (ns : Int)) = false := by simp; omega
    have d4 : decide (30 < ns) = false := by simp; omega
    have HH := Lib.hid (And.intro h1 h2)
    have hd0 : (0 : Int) ≤ (d : Int) := by omega
    have hd17 : (d : Int) ≤ 17 := by omega
    clear h1 h2 hd
    go_enter Tryz.func18, Tryz.ntmps18
    go_wp2_with fail
    rw [← hwB]
    clear hwB
    go_loopg [5, 6] n (fun g s5 s6 wx => ∃ k m : Nat, k + g = n ∧ s6 = .int .i64 (k : Int) ∧ s5 = .int .i64 (m : Int) ∧ k + 1 ≤ m ∧ m ≤ 401 ∧ (m ≤ 200 → m = 1 + RE.sizes (e.parts.take k) ∧ ∀ j p, j < k → e.parts[j]? = some p → p.Fit) ∧ Below w.heap.size w wx ∧ wx.cell? ⟨w.heap.size, 2, none⟩ = some (.slice o2 n q2))
    case atStart => exact ⟨0, 1, by omega, rfl, rfl, by omega, by omega, fun _ => ⟨by rw [List.take_zero, RE.sizes_nil], fun j p hj => by omega⟩, HWB.out.1, HWB.out.2.2⟩
    case round =>
      obtain ⟨k, m, hkg, rfl, rfl, hkm, hm4, hinv, hbel, e2⟩ := hrel
      have HINV := Lib.hid hinv
      have HBE := Lib.hid hbel
      clear hinv
      by_cases hk : k < n
      · have hx1 : decide ((k : Int) < (n : Int)) = true := by simp; omega
        have hx2 : decide (k < n) = true := by simpa using hk
        by_cases hm2 : m ≤ 200
        · have hx3 : decide ((m : Int) ≤ 200) = true := by simp; omega
          have hx4 : decide (m ≤ 200) = true := by simpa using hm2
          have hk1 : (0 : Int) ≤ (k : Int) := by omega
          have hk2 : (k : Int) < (n : Int) := by omega
          have hkw : IntKind.i64.wrap ((k : Int) + 1) = (k : Int) + 1 := IntWalk.i64_in _ (by omega)
          obtain ⟨p, hp⟩ : ∃ p, e.parts[k]? = some p := ⟨_, List.getElem?_eq_getElem (by have := HNN.out; omega)⟩
          obtain ⟨-, b0, off, rfl, hbl, k0, k1, k2⟩ := HALL.out k p hp
          have hbb := bel_then HB0.out hbel
          rw [← hbb.cell hbl] at k0 k1 k2
          have hcal := fun w' hb' => HIN.out k p w' (by have := HH.out.1; omega) hp hb'
          obtain ⟨x1, hx1'⟩ : ∃ x, x = c1 k := ⟨_, rfl⟩
          obtain ⟨x2, hx2'⟩ : ∃ x, x = c2 k := ⟨_, rfl⟩
          rw [← hx1', ← hx2'] at hcal
          rw [← hx1'] at k1
          rw [← hx2'] at k2
          have HCAL := Lib.hid hcal
          have HP := Lib.hid hp
          clear hcal hp hbb hx1' hx2' hbl hbel
          go_wp2_with fail
          refine (HCAL.out _ (by exact HBE.out)).mono ?_
          rintro x w3 ⟨⟨r, rfl, hr1, hr2, hr3⟩, hb3⟩
          have g2 := cell_later hb3 e2
          have HB3 := Lib.hid (bel_then HBE.out hb3)
          have HR3 := Lib.hid hr3
          have hwa : IntKind.i64.wrap ((m : Int) + (r : Int)) = ((m + r : Nat) : Int) := by rw [IntWalk.i64_in _ (by omega)]; omega
          obtain ⟨g, rfl⟩ : ∃ g, gk = g + 1 := ⟨gk - 1, by omega⟩
          clear hb3 e2 k0 k1 k2 hr3
          go_wp2_with fail
          go_roundg g
          case measure => omega
          case rel =>
            refine ⟨k + 1, m + r, by omega, by simp, by first | rfl | simp, by omega, by omega, fun h => ?_, HB3.out, g2⟩
            have h1 := HR3.out (by omega)
            have h2 := HINV.out (by omega)
            refine ⟨by rw [RE.take_snoc HP.out, RE.sizes_snoc]; omega, fun j q hj hq => ?_⟩
            rcases Nat.lt_or_ge j k with h3 | h3
            · exact h2.2 j q h3 hq
            · obtain rfl : j = k := by omega
              rw [HP.out] at hq; cases hq; exact h1.2
        · have hx3 : decide ((m : Int) ≤ 200) = false := by simp; omega
          have hx4 : decide (m ≤ 200) = false := by simpa using hm2
          clear hbel
          go_wp2_with fail
          all_goals go_ret
          all_goals first | exact ⟨⟨201, rfl, by omega, by omega, fun h => by omega⟩, HBE.out⟩ | exact ⟨⟨m, rfl, by omega, by omega, fun h => by omega⟩, HBE.out⟩
      · obtain rfl : k = n := by omega
        have hx1 : decide ((k : Int) < (k : Int)) = false := by simp
        have hx2 : decide (k < k) = false := by simp
        have HZ := Lib.hid (show (m ≤ 200 → m = e.size ∧ e.Fit) by
          intro h
          have h2 := HINV.out (by omega)
          have h3 : e.parts.take k = e.parts := List.take_of_length_le (by have := HNN.out; omega)
          rw [h3] at h2
          have h4 := HSZ.out
          have h5 := RE.len_sizes e.parts
          refine ⟨by omega, ?_⟩
          have h6 := HF.out
          have h7 := HNS.out
          have h8 := HH.out.2
          cases e with
          | mk k0 s l => exact .mk k0 s l h6.sets (by have : ns = s.length := h7; omega) (by have : (RE.mk k0 s l).parts = l := rfl; rw [this] at h5 h2; omega) (fun i p hp => h2.2 i p (by have := (List.getElem?_eq_some_iff.1 hp).1; have := HNN.out; have h9 : (RE.mk k0 s l).parts = l := rfl; rw [h9] at this; omega) hp))
        clear hbel
        go_wp2_with fail
        all_goals go_ret
        all_goals first | exact ⟨⟨201, rfl, by omega, by omega, fun h => by omega⟩, HBE.out⟩ | exact ⟨⟨m, rfl, by omega, by omega, HZ.out⟩, HBE.out⟩
set_option maxHeartbeats 4000000 in
set_option maxRecDepth 100000 in
theorem few_any (e : RE) (sv lv : Value) (w : World) (hr : ReIs w e sv lv) (hf : e.Raw) :
    Calls Tryz.prog 6 #[.agg #[.int .i64 e.kind, sv, lv]] w fun x w' => (∃ b : Bool, x = .returned (.bool b) ∧ (b = true → e.size ≤ 200 ∧ e.Fit)) ∧ Below w.heap.size w w' := by
  obtain ⟨⟨o1, q1, rfl⟩, ⟨o2, q2, rfl⟩⟩ := hr.form
  have hc := fun w' hb => sz_all w e.size e _ _ 1 w' (Nat.le_refl _) hf hr hb (by omega)
  have HC := Lib.hid hc
  clear hc hr hf
  go_enter Tryz.func6, Tryz.ntmps6
  go_wp2_with fail
  refine (HC.out _ (bel_new (Below.refl _ _) _)).mono ?_
  rintro x w2 ⟨⟨r, rfl, hr1, hr2, hr3⟩, hb2⟩
  obtain ⟨b, hb⟩ : ∃ b, decide (r ≤ 200) = b := ⟨_, rfl⟩
  have hb9 : decide ((r : Int) ≤ 200) = b := by rw [← hb, decide_eq_decide]; omega
  have HX := Lib.hid (show (b = true → e.size ≤ 200 ∧ e.Fit) ∧ Below w.heap.size w w2 by
    refine ⟨fun h => ?_, bel_then (bel_new (Below.refl _ _) _) hb2⟩
    subst hb
    have := hr3 (by simpa using h)
    exact ⟨by have := of_decide_eq_true h; omega, this.2⟩)
  clear hr3 hb2
  go_wp2_with fail
  go_ret
  exact ⟨⟨b, rfl, HX.out.1⟩, HX.out.2⟩

def PzPost (e : PT) (x : Ending) : Prop := ∃ r : Nat, x = .returned (.int .i64 (r : Int)) ∧ 1 ≤ r ∧ r ≤ 201 ∧ (r ≤ 200 → r = e.size ∧ e.Fit)
def PzIh (w0 : World) (N : Nat) : Prop := ∀ (e : PT) (sv ev lv : Value) (d : Nat) (w : World), e.size ≤ N → PtIs w0 e sv ev lv → Below w0.heap.size w0 w → d ≤ 17 →
  Calls Tryz.prog 30 #[.agg #[.int .i64 e.kind, sv, ev, lv], .int .i64 (d : Int)] w fun x w' => PzPost e x ∧ Below w.heap.size w w'
set_option maxHeartbeats 8000000 in
set_option maxRecDepth 100000 in
theorem pz_all (w0 : World) : ∀ N, PzIh w0 N := by
  intro N
  induction N with
  | zero => intro e sv ev lv d w hs; have := e.size_pos; omega
  | succ N ih =>
    intro e sv ev lv d w hs hr hb0 hd
    obtain ⟨⟨o1, q1, rfl⟩, ⟨o3, q3, rfl⟩, -⟩ := hr.form
    obtain ⟨o2, q2, c1, c3, c2, rfl, hall⟩ := hr.all
    have HALL := Lib.hid hall
    have hin : ∀ (i : Nat) (p : PT) (w' : World), d ≤ 16 → e.parts[i]? = some p → Below w.heap.size w w' → Calls Tryz.prog 30 #[.agg #[.int .i64 p.kind, c1 i, c3 i, c2 i], .int .i64 ((d : Int) + 1)] w' fun x w'' => PzPost p x ∧ Below w'.heap.size w' w'' := by
      intro i p w' hd' hp hb
      exact ih p _ _ _ (d + 1) w' (by have := PT.size_part hp; omega) (hall i p hp).1 (bel_then hb0 hb) (by omega)
    have HIN := Lib.hid hin
    have HB0 := Lib.hid hb0
    have HSZ := Lib.hid (PT.size_sizes e)
    clear hall hin hr hb0 ih hs
    obtain ⟨n, hn⟩ : ∃ n, n = e.parts.length := ⟨_, rfl⟩
    rw [← hn]
    have HNN := Lib.hid hn
    clear hn
    obtain ⟨ns, hns⟩ : ∃ n, n = e.names.length := ⟨_, rfl⟩
    rw [← hns]
    obtain ⟨ne, hne⟩ : ∃ n, n = e.ends.length := ⟨_, rfl⟩
    rw [← hne]
    have HNS := Lib.hid (And.intro hns hne)
    clear hns hne
    obtain ⟨wB, hwB⟩ : ∃ wB, wB = w.alloc (.cells #[.int .i64 e.kind, .slice o1 ns q1, .slice o3 ne q3, .slice o2 n q2] 47) := ⟨_, rfl⟩
    have HWB := Lib.hid (show Below w.heap.size w wB ∧ wB.cell? ⟨w.heap.size, 1, none⟩ = some (.slice o1 ns q1) ∧ wB.cell? ⟨w.heap.size, 3, none⟩ = some (.slice o2 n q2) by rw [hwB]; exact ⟨bel_new (Below.refl _ _) _, by simp [go_sem], by simp [go_sem]⟩)
    by_cases h1 : 16 < d
    · have d1 : decide ((16 : Int) < (d : Int)) = true := by simp; omega
      have d2 : decide (16 < d) = true := by simp; omega
      go_enter Tryz.func30, Tryz.ntmps30
      go_wp2_with fail
      go_ret
      exact ⟨⟨201, rfl, by omega, by omega, fun h => by omega⟩, by rw [← hwB]; exact HWB.out.1⟩
    have d1 : decide ((16 : Int) < (d : Int)) = false := by simp; omega
    have d2 : decide (16 < d) = false := by simp; omega
    have hdw : IntKind.i64.wrap ((d : Int) + 1) = (d : Int) + 1 := IntWalk.i64_in _ (by omega)
    by_cases h2 : 20 < ns
    · have d3 : decide ((20 : Int) < (ns : Int)) = true := by simp; omega
      have d4 : decide (20 < ns) = true := by simp; omega
      go_enter Tryz.func30, Tryz.ntmps30
      go_wp2_with fail
      go_ret
      exact ⟨⟨201, rfl, by omega, by omega, fun h => by omega⟩, by rw [← hwB]; exact HWB.out.1⟩
    have d3 : decide ((20 : Int) < (ns : Int)) = false := by simp; omega
    have d4 : decide (20 < ns) = false := by simp; omega
    by_cases h3 : 20 < ne
    · have d5 : decide ((20 : Int) < (ne : Int)) = true := by simp; omega
      have d6 : decide (20 < ne) = true := by simp; omega
      go_enter Tryz.func30, Tryz.ntmps30
      go_wp2_with fail
      go_ret
      exact ⟨⟨201, rfl, by omega, by omega, fun h => by omega⟩, by rw [← hwB]; exact HWB.out.1⟩
    have d5 : decide ((20 : Int) < (ne : Int)) = false := by simp; omega
    have d6 : decide (20 < ne) = false := by simp; omega
    have HH := Lib.hid (And.intro h1 (And.intro h2 h3))
    have hd0 : (0 : Int) ≤ (d : Int) := by omega
    have hd17 : (d : Int) ≤ 17 := by omega
    clear h1 h2 h3 hd
    go_enter Tryz.func30, Tryz.ntmps30
    go_wp2_with fail
    rw [← hwB]
    clear hwB
    go_loopg [5, 6] n (fun g s5 s6 wx => ∃ k m : Nat, k + g = n ∧ s6 = .int .i64 (k : Int) ∧ s5 = .int .i64 (m : Int) ∧ k + 1 ≤ m ∧ m ≤ 401 ∧ (m ≤ 200 → m = 1 + PT.sizes (e.parts.take k) ∧ ∀ j p, j < k → e.parts[j]? = some p → p.Fit) ∧ Below w.heap.size w wx ∧ wx.cell? ⟨w.heap.size, 3, none⟩ = some (.slice o2 n q2))
    case atStart => exact ⟨0, 1, by omega, rfl, rfl, by omega, by omega, fun _ => ⟨by rw [List.take_zero, PT.sizes_nil], fun j p hj => by omega⟩, HWB.out.1, HWB.out.2.2⟩
    case round =>
      obtain ⟨k, m, hkg, rfl, rfl, hkm, hm4, hinv, hbel, e2⟩ := hrel
      have HINV := Lib.hid hinv
      have HBE := Lib.hid hbel
      clear hinv
      by_cases hk : k < n
      · have hx1 : decide ((k : Int) < (n : Int)) = true := by simp; omega
        have hx2 : decide (k < n) = true := by simpa using hk
        by_cases hm2 : m ≤ 200
        · have hx3 : decide ((m : Int) ≤ 200) = true := by simp; omega
          have hx4 : decide (m ≤ 200) = true := by simpa using hm2
          have hk1 : (0 : Int) ≤ (k : Int) := by omega
          have hk2 : (k : Int) < (n : Int) := by omega
          have hkw : IntKind.i64.wrap ((k : Int) + 1) = (k : Int) + 1 := IntWalk.i64_in _ (by omega)
          obtain ⟨p, hp⟩ : ∃ p, e.parts[k]? = some p := ⟨_, List.getElem?_eq_getElem (by have := HNN.out; omega)⟩
          obtain ⟨-, b0, off, rfl, hbl, k0, k1, k3, k2⟩ := HALL.out k p hp
          have hbb := bel_then HB0.out hbel
          rw [← hbb.cell hbl] at k0 k1 k2 k3
          have hcal := fun w' hb' => HIN.out k p w' (by have := HH.out.1; omega) hp hb'
          obtain ⟨x1, hx1'⟩ : ∃ x, x = c1 k := ⟨_, rfl⟩
          obtain ⟨x2, hx2'⟩ : ∃ x, x = c2 k := ⟨_, rfl⟩
          obtain ⟨x3, hx3'⟩ : ∃ x, x = c3 k := ⟨_, rfl⟩
          rw [← hx1', ← hx2', ← hx3'] at hcal
          rw [← hx3'] at k3
          rw [← hx1'] at k1
          rw [← hx2'] at k2
          have HCAL := Lib.hid hcal
          have HP := Lib.hid hp
          clear hcal hp hbb hx1' hx2' hx3' hbl hbel
          go_wp2_with fail
          refine (HCAL.out _ (by exact HBE.out)).mono ?_
          rintro x w3 ⟨⟨r, rfl, hr1, hr2, hr3⟩, hb3⟩
          have g2 := cell_later hb3 e2
          have HB3 := Lib.hid (bel_then HBE.out hb3)
          have HR3 := Lib.hid hr3
          have hwa : IntKind.i64.wrap ((m : Int) + (r : Int)) = ((m + r : Nat) : Int) := by rw [IntWalk.i64_in _ (by omega)]; omega
          obtain ⟨g, rfl⟩ : ∃ g, gk = g + 1 := ⟨gk - 1, by omega⟩
          clear hb3 e2 k0 k1 k2 k3 hr3
          go_wp2_with fail
          go_roundg g
          case measure => omega
          case rel =>
            refine ⟨k + 1, m + r, by omega, by simp, by first | rfl | simp, by omega, by omega, fun h => ?_, HB3.out, g2⟩
            have h1 := HR3.out (by omega)
            have h2 := HINV.out (by omega)
            refine ⟨by rw [PT.take_snoc HP.out, PT.sizes_snoc]; omega, fun j q hj hq => ?_⟩
            rcases Nat.lt_or_ge j k with h3 | h3
            · exact h2.2 j q h3 hq
            · obtain rfl : j = k := by omega
              rw [HP.out] at hq; cases hq; exact h1.2
        · have hx3 : decide ((m : Int) ≤ 200) = false := by simp; omega
          have hx4 : decide (m ≤ 200) = false := by simpa using hm2
          clear hbel
          go_wp2_with fail
          all_goals go_ret
          all_goals first | exact ⟨⟨201, rfl, by omega, by omega, fun h => by omega⟩, HBE.out⟩ | exact ⟨⟨m, rfl, by omega, by omega, fun h => by omega⟩, HBE.out⟩
      · obtain rfl : k = n := by omega
        have hx1 : decide ((k : Int) < (k : Int)) = false := by simp
        have hx2 : decide (k < k) = false := by simp
        have HZ := Lib.hid (show (m ≤ 200 → m = e.size ∧ e.Fit) by
          intro h
          have h2 := HINV.out (by omega)
          have h3 : e.parts.take k = e.parts := List.take_of_length_le (by have := HNN.out; omega)
          rw [h3] at h2
          have h4 := HSZ.out
          have h5 := PT.len_sizes e.parts
          refine ⟨by omega, ?_⟩
          have h7 := HNS.out
          have h8 := HH.out.2
          cases e with
          | mk k0 s t l => exact .mk k0 s t l (by have : ns = s.length := h7.1; omega) (by have : ne = t.length := h7.2; omega) (by have : (PT.mk k0 s t l).parts = l := rfl; rw [this] at h5 h2; omega) (fun i p hp => h2.2 i p (by have := (List.getElem?_eq_some_iff.1 hp).1; have := HNN.out; have h9 : (PT.mk k0 s t l).parts = l := rfl; rw [h9] at this; omega) hp))
        clear hbel
        go_wp2_with fail
        all_goals go_ret
        all_goals first | exact ⟨⟨201, rfl, by omega, by omega, fun h => by omega⟩, HBE.out⟩ | exact ⟨⟨m, rfl, by omega, by omega, HZ.out⟩, HBE.out⟩
end Go.Proofs.YtbanmggkfpnalaaGreatDoor
