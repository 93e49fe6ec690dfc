/- gobolaw11.told. -/
import Derived.Test.YtbanmggkfpnalaaGreatDoorGSame
import Derived.Deep.RegionHeld
import Derived.Deep.DeepCutAuto
import Derived.Deep.RegionHeld3
import Derived.Deep.RegionLaw
set_option linter.unusedVariables false
set_option linter.unusedSimpArgs false
namespace Go.Proofs.YtbanmggkfpnalaaGreatDoor
open Go Go.RowKit

theorem append_place {P : Program} (w : World) (base : Nat) (t ty e : TypeId) (i : TypeInfo) (z : Value) (ht : P.underlying t = some (.slice e)) (hi : P.info? e = some i) (hz : i.zero = some z)
    (v : Value) (n : Nat) (xs : List Value) (hown : w.ownsRow base e i.size v n xs) (ad : Addr) (m c : Nat) (news : List Value) (hl : news.length = m * i.size) (hnews : ∀ j u, news[j]? = some u → w.cell? (ad.add j) = some u) (h1 : ∀ u ∈ news, u.oneCell' = true)
    (h63 : n + m ≤ maxLen) (hbytes : (n + m) * i.bytes ≤ 140737488355328) {v' : Value} {w' : World}
    (hr : (Builtin.append_ #[t, t] ty #[v, .slice (some ad) m c]).run P w = .ok v' w') : ∀ k, v'.ownBlock = some k → v.ownBlock = some k ∨ w.heap.size ≤ k := by
  intro k hk
  have h63' : n + m ≤ 9223372036854775807 := by simp only [maxLen] at h63; omega
  rcases hown.2 with ⟨rfl, rfl⟩ | ⟨g, cap, cur, rfl, hbg, hg, hnc, hcm, hcs, htake⟩
  · by_cases hm : m = 0
    · subst hm
      have e0 : news = [] := List.eq_nil_of_length_eq_zero (by simpa using hl)
      have : v' = .slice none 0 0 := by
        have h2 : (Builtin.append_ #[t, t] ty #[.slice none 0 0, .slice (some ad) 0 c]).run P w = .ok (.slice none 0 0) w := by
          simp [Builtin.append_, run_underlying ht, sizeOf, typeInfo, hi, Builtin.lenOf, Builtin.firstCells, loadCells, loadCellsFrom]
        rw [h2] at hr
        cases hr; rfl
      subst this
      simp [Value.ownBlock] at hk
    · rw [run_append_nil (P := P) w t ty e i z ht hi hz ad m c news hl hnews (by omega) (by omega) (by simp only [Nat.zero_add] at hbytes; omega)] at hr
      cases hr
      simp [Value.ownBlock] at hk
      omega
  · by_cases hroom : n + m ≤ cap
    · rw [run_append_room (P := P) w t ty e i ht hi g n cap cur hg ad m c news hl hnews h1 hroom (by rw [hl, hcs, ← Nat.add_mul]; exact Nat.mul_le_mul_right _ hroom)] at hr
      cases hr
      exact .inl hk
    · rw [run_append_grow (P := P) w t ty e i z ht hi hz ⟨g, 0, none⟩ n cap xs hown.1 (hown.cells (g := g) rfl) ad m c news hl hnews (by omega) (by omega) (growslice_fits (by omega) hbytes)] at hr
      cases hr
      simp [Value.ownBlock] at hk
      omega
theorem wp_append_far {P : Program} (w : World) {o : Oper} {a : Act} {K : Act → World → Prop} {Q : Exit → Act → World → Prop} (s x : Operand) (t : TypeId)
    (ho : o.op = .call { callee := .builtin .append, args := #[s, x], argTypes := #[t, t] })
    (base : Nat) (e : TypeId) (i : TypeInfo) (z : Value) (size bytes : Nat) (ht : P.underlying t = some (.slice e)) (hi : P.info? e = some i) (hz : i.zero = some z)
    (hsize : i.size = size) (hby : i.bytes = bytes) (hzs : z.cells.size = size) (hsz : 0 < size)
    (v : Value) (n : Nat) (xs : List Value) (hs : a.eval s = v) (hown : w.ownsRow base e size v n xs)
    (u : Value) (m : Nat) (news : List Value) (hx : a.eval x = u) (hrow : Row w u m news) (hl : news.length = m * size) (h1 : ∀ u ∈ news, u.oneCell' = true)
    (h63 : n + m ≤ maxLen) (hbytes : (n + m) * bytes ≤ 140737488355328) (hbase : base ≤ w.heap.size)
    (h : ∀ v' w', w'.ownsRow base e size v' (n + m) (xs ++ news) → w.grownBy w' v.ownBlock → (∀ k, v'.ownBlock = some k → v.ownBlock = some k ∨ w.heap.size ≤ k) → Below base w w' → K (a.put o.dst v') w') : o.wp P a w K Q := by
  have hrow' := hrow
  obtain ⟨oo, cap, rfl, hc, hm, hr⟩ := hrow
  cases oo with
  | none =>
    have hm0 : m = 0 ∧ cap = 0 := by
      rcases hr with ⟨h0, h2⟩ | ⟨b, off, hb, _⟩
      · exact ⟨h0, h2 rfl⟩
      · cases hb
    obtain ⟨rfl, rfl⟩ := hm0
    have e0 : news = [] := List.eq_nil_of_length_eq_zero (by omega)
    subst e0
    have hr := run_append_owned_none (P := P) w base t o.type e i size ht hi v n xs hown
    unfold Oper.wp execOp
    simp only [ho, resolve, invoke, builtin, Sem.run_bind, Sem.run_pure, Result.andThen_ok, List.map_toArray, List.map_cons, List.map_nil, hs, hx, hr]
    exact h v w (by simpa using hown) (World.grownBy.refl _ _) (fun k hk => .inl hk) (Below.refl _ _)
  | some ad =>
    have hn : ∀ j u, news[j]? = some u → w.cell? (ad.add j) = some u := by
      rcases hr with ⟨rfl, _⟩ | ⟨b, off, hb, hlt, hcc⟩
      · intro j u hj
        have : news = [] := List.eq_nil_of_length_eq_zero (by omega)
        subst this; simp at hj
      · cases hb
        intro j u hj
        rw [← hcc j u hj]
        congr 1
        unfold Addr.add
        by_cases e : j = 0
        · subst e; simp
        · simp [e]
    obtain ⟨v', w', hrun, h2, h3, h4⟩ := run_append_own (P := P) w base t o.type e i z size bytes ht hi hz hsize hby hzs hsz v n xs hown ad m cap news hl hn h1 h63 hbytes hbase
    have h5 := append_place w base t o.type e i z ht hi hz v n xs (by rw [hsize]; exact hown) ad m cap news (by rw [hsize]; exact hl) hn h1 h63 (by rw [hby]; exact hbytes) hrun
    unfold Oper.wp execOp
    simp only [ho, resolve, invoke, builtin, Sem.run_bind, Sem.run_pure, Result.andThen_ok, List.map_toArray, List.map_cons, List.map_nil, hs, hx, hrun]
    exact h v' w' h2 h3 h5 ((Below.refl _ _).grown h3 hbase (fun k hk => (hown.lt k hk).1))

theorem step_append_far {P : Program} (w : World) {ops : Array Oper} {o : Oper} {a : Act} {K : Act → World → Prop} {Q : Exit → Act → World → Prop} {E : Prop} (hgd : o.guard = none) (s x : Operand) (t : TypeId)
    (ho : o.op = .call { callee := .builtin .append, args := #[s, x], argTypes := #[t, t] })
    (base : Nat) (e : TypeId) (i : TypeInfo) (z : Value) (size bytes : Nat) (ht : P.underlying t = some (.slice e)) (hi : P.info? e = some i) (hz : i.zero = some z)
    (hsize : i.size = size) (hby : i.bytes = bytes) (hzs : z.cells.size = size) (hsz : 0 < size)
    (v : Value) (n : Nat) (xs : List Value) (hs : a.eval s = v) (hown : w.ownsRow base e size v n xs)
    (u : Value) (m : Nat) (news : List Value) (hx : a.eval x = u) (hrow : Row w u m news) (hl : news.length = m * size) (h1 : ∀ u ∈ news, u.oneCell' = true)
    (h63 : n + m ≤ maxLen) (hbytes : (n + m) * bytes ≤ 140737488355328) (hbase : base ≤ w.heap.size)
    (h : ∀ v' w', w'.ownsRow base e size v' (n + m) (xs ++ news) → w.grownBy w' v.ownBlock → (∀ k, v'.ownBlock = some k → v.ownBlock = some k ∨ w.heap.size ≤ k) → Below base w w' → K (a.put o.dst v') w') : if Region.wanted o (yielded ops a.tmps) = true then Oper.wp P o a w K Q else E := by
  have hw : Region.wanted o (yielded ops a.tmps) = true := by simp [Region.wanted, hgd]
  rw [if_pos hw]
  exact wp_append_far w s x t ho base e i z size bytes ht hi hz hsize hby hzs hsz v n xs hs hown u m news hx hrow hl h1 h63 hbytes hbase h
theorem wpList_append_far {P : Program} (w : World) {ops : Array Oper} {rest : List Oper} {o : Oper} {a : Act} {Q : Exit → Act → World → Prop} (hgd : o.guard = none) (s x : Operand) (t : TypeId)
    (ho : o.op = .call { callee := .builtin .append, args := #[s, x], argTypes := #[t, t] })
    (base : Nat) (e : TypeId) (i : TypeInfo) (z : Value) (size bytes : Nat) (ht : P.underlying t = some (.slice e)) (hi : P.info? e = some i) (hz : i.zero = some z)
    (hsize : i.size = size) (hby : i.bytes = bytes) (hzs : z.cells.size = size) (hsz : 0 < size)
    (v : Value) (n : Nat) (xs : List Value) (hs : a.eval s = v) (hown : w.ownsRow base e size v n xs)
    (u : Value) (m : Nat) (news : List Value) (hx : a.eval x = u) (hrow : Row w u m news) (hl : news.length = m * size) (h1 : ∀ u ∈ news, u.oneCell' = true)
    (h63 : n + m ≤ maxLen) (hbytes : (n + m) * bytes ≤ 140737488355328) (hbase : base ≤ w.heap.size)
    (h : ∀ v' w', w'.ownsRow base e size v' (n + m) (xs ++ news) → w.grownBy w' v.ownBlock → (∀ k, v'.ownBlock = some k → v.ownBlock = some k ∨ w.heap.size ≤ k) → Below base w w' → wpList P ops Q rest (a.put o.dst v') w') : wpList P ops Q (o :: rest) a w :=
  wpList_plain hgd fun _ hK => wp_append_far w s x t ho base e i z size bytes ht hi hz hsize hby hzs hsz v n xs hs hown u m news hx hrow hl h1 h63 hbytes hbase fun v' w' h2 h3 h4 h5 => hK _ _ (h v' w' h2 h3 h4 h5)

structure Ag (S : Nat → Prop) (w w' : World) : Prop where
  os : w'.os = w.os
  tape : w'.tape = w.tape
  output : w'.output = w.output
  size : w.heap.size ≤ w'.heap.size
  block : ∀ k, k < w.heap.size → S k → w'.heap[k]? = w.heap[k]?
theorem Ag.refl (S : Nat → Prop) (w : World) : Ag S w w := ⟨rfl, rfl, rfl, Nat.le_refl _, fun _ _ _ => rfl⟩
theorem Ag.trans {S : Nat → Prop} {a b c : World} (h : Ag S a b) (k : Ag S b c) : Ag S a c :=
  ⟨k.os.trans h.os, k.tape.trans h.tape, k.output.trans h.output, Nat.le_trans h.size k.size, fun i hi hS => (k.block i (Nat.lt_of_lt_of_le hi h.size) hS).trans (h.block i hi hS)⟩
theorem Ag.sub {S T : Nat → Prop} {a b : World} (h : Ag S a b) (hT : ∀ k, k < a.heap.size → T k → S k) : Ag T a b := ⟨h.os, h.tape, h.output, h.size, fun i hi hS => h.block i hi (hT i hi hS)⟩
theorem Ag.of {S : Nat → Prop} {a b : World} (h : Below a.heap.size a b) : Ag S a b := ⟨h.os, h.tape, h.output, h.size, fun i hi _ => h.block i hi⟩
theorem Ag.below {S : Nat → Prop} {a b : World} {B : Nat} (h : Ag S a b) (hB : B ≤ a.heap.size) (hS : ∀ k, k < B → S k) : Below B a b := ⟨h.os, h.tape, h.output, h.size, fun i hi => h.block i (by omega) (hS i hi)⟩
theorem Ag.drew {S : Nat → Prop} {a b : World} (h : Ag S a b) : Ag S a b.drew := ⟨h.os, h.tape, h.output, h.size, h.block⟩
theorem Ag.alloc {S : Nat → Prop} {a b : World} (h : Ag S a b) (o : Obj) : Ag S a (b.alloc o) := h.trans (.of (bel_new (Below.refl _ _) o))
theorem Ag.setCell {S : Nat → Prop} {a b : World} (h : Ag S a b) {p : Addr} (hp : ¬ S p.block) (x : Value) : Ag S a (b.setCell p x) :=
  h.trans ⟨rfl, rfl, rfl, by simp [World.setCell], fun k hk hS => Below.heap_setCell b p x k (fun e => hp (e ▸ hS))⟩
theorem Ag.grown {S : Nat → Prop} {a b c : World} {row : Option Nat} (h : Ag S a b) (hg : b.grownBy c row) (hr : ∀ k, row = some k → ¬ S k) : Ag S a c :=
  h.trans ⟨hg.os, hg.tape, hg.output, hg.size, fun k hk hS => hg.block k hk (fun e => hr k e.symm hS)⟩
def KP (S : Nat → Prop) (w : World) (F : World → Prop) : Prop := ∀ w', Ag S w w' → F w'
theorem KP.here {S : Nat → Prop} {w : World} {F : World → Prop} (h : KP S w F) : F w := h w (Ag.refl S w)
theorem KP.to {S : Nat → Prop} {w w' : World} {F : World → Prop} (h : KP S w F) (k : Ag S w w') : KP S w' F := fun w2 h2 => h w2 (k.trans h2)
theorem KP.sub {S T : Nat → Prop} {w : World} {F : World → Prop} (h : KP S w F) (hT : ∀ k, k < w.heap.size → S k → T k) : KP T w F := fun w' h' => h w' (h'.sub hT)
theorem KP.mono {S : Nat → Prop} {w : World} {F G : World → Prop} (h : KP S w F) (hG : ∀ w', F w' → G w') : KP S w G := fun w' h' => hG _ (h w' h')
theorem KP.block {S : Nat → Prop} {w : World} {b : Nat} {o : Obj} (h : w.heap[b]? = some o) (hS : S b) : KP S w (fun w' => w'.heap[b]? = some o) :=
  fun w' h' => by show w'.heap[b]? = some o; rw [h'.block b (Array.getElem?_eq_some_iff.1 h).1 hS]; exact h
theorem owns_ag {S : Nat → Prop} {w w' : World} {base size n : Nat} {e : TypeId} {v : Value} {xs : List Value} (h : w.ownsRow base e size v n xs) (k : Ag S w w') (hS : ∀ j, v.ownBlock = some j → S j) : w'.ownsRow base e size v n xs := by
  refine ⟨h.1, ?_⟩
  rcases h.2 with hn | ⟨g, cap, cur, rfl, hb, hgg, rest⟩
  · exact .inl hn
  · exact .inr ⟨g, cap, cur, rfl, hb, by rw [k.block g (Array.getElem?_eq_some_iff.1 hgg).1 (hS g rfl)]; exact hgg, rest⟩

structure Own {α : Type} (X : Nat → Prop) (w : World) (B : Nat) (e : TypeId) (size : Nat) (v : Value) (f : α → List Value) (G : World → α → Prop) (ps : List α) : Prop where
  row : w.ownsRow B e size v ps.length (ps.flatMap f)
  keep : ∀ p ∈ ps, KP (fun k => X k ∧ v.ownBlock ≠ some k) w (fun w' => G w' p)
section
variable {α : Type} {X : Nat → Prop} {w w' : World} {B size : Nat} {e : TypeId} {v v' : Value} {f : α → List Value} {G : World → α → Prop} {ps : List α}
theorem Own.nil : Own X w B e size (.slice none 0 0) f G [] := ⟨World.ownsRow_nil w B e size, fun p h => by cases h⟩
theorem Own.moved (h : Own X w B e size v f G ps) (k : Below w.heap.size w w') : Own X w' B e size v f G ps :=
  ⟨owns_below h.row k, fun p hp => (h.keep p hp).to (.of k)⟩
theorem Own.sub {Y : Nat → Prop} (h : Own X w B e size v f G ps) (k : ∀ i, i < w.heap.size → X i → Y i) : Own Y w B e size v f G ps :=
  ⟨h.row, fun p hp => (h.keep p hp).sub fun i hi hx => ⟨k i hi hx.1, hx.2⟩⟩
theorem Own.ag (h : Own X w B e size v f G ps) (k : Ag (fun i => X i ∨ v.ownBlock = some i) w w') : Own X w' B e size v f G ps :=
  ⟨owns_ag h.row k (fun j hj => .inr hj), fun p hp => (h.keep p hp).to (k.sub fun i _ hi => .inl hi.1)⟩
theorem Own.push (h : Own X w B e size v f G ps) {p : α} (hr : w'.ownsRow B e size v' (ps.length + 1) (ps.flatMap f ++ f p)) (hg : w.grownBy w' v.ownBlock) (hf : ∀ k, v'.ownBlock = some k → v.ownBlock = some k ∨ w.heap.size ≤ k)
    (hp : KP (fun k => X k ∧ v.ownBlock ≠ some k) w (fun w' => G w' p)) : Own X w' B e size v' f G (ps ++ [p]) := by
  have key : ∀ {F : World → Prop}, KP (fun k => X k ∧ v.ownBlock ≠ some k) w F → KP (fun k => X k ∧ v'.ownBlock ≠ some k) w' F := by
    intro F hF w2 h2
    refine hF w2 ⟨h2.os.trans hg.os, h2.tape.trans hg.tape, h2.output.trans hg.output, Nat.le_trans hg.size h2.size, fun k hk hS => ?_⟩
    rw [h2.block k (Nat.lt_of_lt_of_le hk hg.size) ⟨hS.1, fun e => by rcases hf k e with e2 | e2; exact hS.2 e2; omega⟩]
    exact hg.block k hk (fun e => hS.2 e.symm)
  refine ⟨by simpa using hr, fun q hq => ?_⟩
  rcases List.mem_append.1 hq with h1 | h1
  · exact key (h.keep q h1)
  · have : q = p := by simpa using h1
    subst this
    exact key hp
end
end Go.Proofs.YtbanmggkfpnalaaGreatDoor

namespace Go.Proofs.YtbanmggkfpnalaaGreatDoor
open Go.RowKit Ru

set_option maxHeartbeats 8000000 in
set_option maxRecDepth 100000 in
theorem one_exact (r : Int) (w : World) :
    Calls Tryz.prog 19 #[.int .i32 r] w fun e w' => e = .returned (.agg #[.int .i64 2, .slice (some ⟨w.heap.size + 1, 0, none⟩) 1 1, .slice none 0 0]) ∧ w' = (w.alloc (.cells #[.int .i64 2, .slice (some ⟨w.heap.size + 1, 0, none⟩) 1 1, .slice none 0 0] 25)).alloc (.cells #[.int .i32 r, .int .i32 r] 53) := by
  go_enter Tryz.func19, Tryz.ntmps19
  go_wp2_with fail
  simp [bodyPost, results, Tryz.results19, go_sem]
  trace_state
theorem allocs_old : ∀ (l : List Obj) (w : World) (k : Nat), k < w.heap.size → (l.foldl World.alloc w).heap[k]? = w.heap[k]? := by
  intro l
  induction l with
  | nil => intro w k h; rfl
  | cons o l ih =>
    intro w k h
    rw [List.foldl_cons, ih _ _ (by simp; omega)]
    exact Below.heap_alloc _ _ _ h
theorem allocs_heap : ∀ (l : List Obj) (w : World) (i : Nat), i < l.length → (l.foldl World.alloc w).heap[w.heap.size + i]? = l[i]? := by
  intro l
  induction l with
  | nil => intro w i h; simp at h
  | cons o l ih =>
    intro w i h
    rw [List.foldl_cons]
    cases i with
    | zero => rw [allocs_old _ _ _ (by simp), Nat.add_zero]; exact heap_alloc_new _ _
    | succ i =>
      have := ih (w.alloc o) i (by simpa using h)
      rw [show w.heap.size + (i + 1) = (w.alloc o).heap.size + i by simp; omega, this]
      simp
theorem chain5 (W : World) (a b c d e : Obj) : ((((((W.alloc a).alloc b).alloc c).alloc d).alloc e).drew).heap[W.heap.size]? = some a ∧ ((((((W.alloc a).alloc b).alloc c).alloc d).alloc e).drew).heap[W.heap.size + 1]? = some b ∧ ((((((W.alloc a).alloc b).alloc c).alloc d).alloc e).drew).heap[W.heap.size + 1 + 1]? = some c ∧
    ((((((W.alloc a).alloc b).alloc c).alloc d).alloc e).drew).heap[W.heap.size + 1 + 1 + 1]? = some d ∧ ((((((W.alloc a).alloc b).alloc c).alloc d).alloc e).drew).heap[W.heap.size + 1 + 1 + 1 + 1]? = some e ∧ Below W.heap.size W ((((((W.alloc a).alloc b).alloc c).alloc d).alloc e).drew) := by
  refine ⟨?_, ?_, ?_, ?_, ?_, (bel_new (bel_new (bel_new (bel_new (bel_new (Below.refl _ _) _) _) _) _) _).drew⟩
  · rw [drew_heap, Below.heap_alloc _ _ _ (by simp <;> omega), Below.heap_alloc _ _ _ (by simp <;> omega), Below.heap_alloc _ _ _ (by simp <;> omega), Below.heap_alloc _ _ _ (by simp <;> omega)]; exact heap_alloc_new _ _
  · rw [drew_heap, Below.heap_alloc _ _ _ (by simp <;> omega), Below.heap_alloc _ _ _ (by simp <;> omega), Below.heap_alloc _ _ _ (by simp)]; have := heap_alloc_new (W.alloc a) b; simpa using this
  · rw [drew_heap, Below.heap_alloc _ _ _ (by simp <;> omega), Below.heap_alloc _ _ _ (by simp)]; have := heap_alloc_new ((W.alloc a).alloc b) c; simpa using this
  · rw [drew_heap, Below.heap_alloc _ _ _ (by simp)]; have := heap_alloc_new (((W.alloc a).alloc b).alloc c) d; simpa using this
  · rw [drew_heap]; have := heap_alloc_new ((((W.alloc a).alloc b).alloc c).alloc d) e; simpa using this
abbrev t0cells (ra rb rc rd : Nat) : Array Value := #[.string ⟨#[97]⟩, .int .i64 0, .int .i64 1, .int .i64 2, .slice (some ⟨ra, 0, none⟩) 1 1, .slice none 0 0, .string ⟨#[98]⟩, .int .i64 0, .int .i64 2, .int .i64 2, .slice (some ⟨rb, 0, none⟩) 2 2, .slice none 0 0,
    .string ⟨#[111]⟩, .int .i64 1, .int .i64 3, .int .i64 2, .slice (some ⟨rc, 0, none⟩) 1 1, .slice none 0 0, .string ⟨#[99]⟩, .int .i64 2, .int .i64 4, .int .i64 2, .slice (some ⟨rd, 0, none⟩) 1 1, .slice none 0 0]
structure Mk0 (w w' : World) (pt ra rb rc rd : Nat) : Prop where
  bel : Below w.heap.size w w'
  ge : w.heap.size ≤ pt
  ht : w'.heap[pt]? = some (.cells (t0cells ra rb rc rd) 61 (0, 0))
  ha : w'.heap[ra]? = some (.cells #[.int .i32 97, .int .i32 97] 53 (0, 0))
  hb : w'.heap[rb]? = some (.cells #[.int .i32 10, .int .i32 10, .int .i32 98, .int .i32 98] 53 (0, 0))
  hc : w'.heap[rc]? = some (.cells #[.int .i32 99, .int .i32 99] 53 (0, 0))
  hd : w'.heap[rd]? = some (.cells #[.int .i32 100, .int .i32 100] 53 (0, 0))
def Mk0At (w W wx : World) (s5 : Value) : Prop := ∃ p5 pt pa pb : Nat, s5 = .pointer (some ⟨p5, 0, none⟩) ∧ W.heap.size ≤ p5 ∧ W.heap.size ≤ pt ∧ p5 ≠ pt ∧ Below W.heap.size W wx ∧
  wx.heap[p5]? = some (.cells #[.slice (some ⟨pt, 0, none⟩) 4 4, .slice none 0 0] 35 (0, 0)) ∧
  wx.heap[pt]? = some (.cells #[.string ⟨#[97]⟩, .int .i64 0, .int .i64 1, .int .i64 2, .slice (some ⟨pa, 0, none⟩) 1 1, .slice none 0 0, .string ⟨#[98]⟩, .int .i64 0, .int .i64 2, .int .i64 2, .slice (some ⟨pb, 0, none⟩) 2 2, .slice none 0 0,
    .string ⟨#[111]⟩, .int .i64 1, .int .i64 3, .int .i64 2, .slice (some ⟨w.heap.size + 1 + 1, 0, none⟩) 1 1, .slice none 0 0, .string ⟨#[99]⟩, .int .i64 2, .int .i64 4, .int .i64 2, .slice (some ⟨w.heap.size + 1 + 1 + 1 + 1, 0, none⟩) 1 1, .slice none 0 0] 61 (0, 0)) ∧
  wx.heap[pa]? = some (.cells #[.int .i32 97, .int .i32 97] 53 (0, 0)) ∧ wx.heap[pb]? = some (.cells #[.int .i32 10, .int .i32 10, .int .i32 98, .int .i32 98] 53 (0, 0))
theorem mk0_of {w W : World} {a b c d e : Obj} {s5 : Value} (h : ∀ wx : World, (wx.heap[W.heap.size]? = some a ∧ wx.heap[W.heap.size + 1]? = some b ∧ wx.heap[W.heap.size + 1 + 1]? = some c ∧ wx.heap[W.heap.size + 1 + 1 + 1]? = some d ∧ wx.heap[W.heap.size + 1 + 1 + 1 + 1]? = some e ∧ Below W.heap.size W wx) → Mk0At w W wx s5) :
    Mk0At w W ((((((W.alloc a).alloc b).alloc c).alloc d).alloc e).drew) s5 := h _ (chain5 W a b c d e)
set_option maxHeartbeats 8000000 in
set_option maxRecDepth 100000 in
theorem mk0_any (w : World) :
    Calls Tryz.prog 16 #[.slice none 0 0] w fun e w' => ∃ pt ra rb rc rd : Nat, e = .returned (.agg #[.slice (some ⟨pt, 0, none⟩) 4 4, .slice none 0 0]) ∧ Mk0 w w' pt ra rb rc rd := by
  go_enter Tryz.func16, Tryz.ntmps16
  go_upto_region 2 with (go_at_call 19; refine (one_exact _ _).mono ?_; rintro e w2 ⟨rfl, rfl⟩)
  obtain ⟨W, hW⟩ : ∃ W, W = (((((((w.alloc (.cells #[.slice none 0 0, .slice none 0 0] 35)).alloc (.cells #[.int .i64 2, .slice (some ⟨w.heap.size + 1 + 1, 0, none⟩) 1 1, .slice none 0 0] 25)).alloc (.cells #[.int .i32 99, .int .i32 99] 53)).alloc (.cells #[.int .i64 2, .slice (some ⟨w.heap.size + 1 + 1 + 1 + 1, 0, none⟩) 1 1, .slice none 0 0] 25)).alloc (.cells #[.int .i32 100, .int .i32 100] 53)).alloc (.cells #[.int .i64 2, .slice (some ⟨w.heap.size + 1 + 1, 0, none⟩) 1 1, .slice none 0 0] 25)).alloc (.cells #[.int .i64 2, .slice (some ⟨w.heap.size + 1 + 1 + 1 + 1, 0, none⟩) 1 1, .slice none 0 0] 25)) := ⟨_, rfl⟩
  rw [← hW]
  have c0 : W.cell? ⟨w.heap.size + 1 + 1 + 1 + 1 + 1, 0, none⟩ = some (.int .i64 2) ∧ W.cell? ⟨w.heap.size + 1 + 1 + 1 + 1 + 1, 1, none⟩ = some (.slice (some ⟨w.heap.size + 1 + 1, 0, none⟩) 1 1) ∧ W.cell? ⟨w.heap.size + 1 + 1 + 1 + 1 + 1, 2, none⟩ = some (.slice none 0 0) := by rw [hW]; simp [go_sem]
  have c1 : W.cell? ⟨w.heap.size + 1 + 1 + 1 + 1 + 1 + 1, 0, none⟩ = some (.int .i64 2) ∧ W.cell? ⟨w.heap.size + 1 + 1 + 1 + 1 + 1 + 1, 1, none⟩ = some (.slice (some ⟨w.heap.size + 1 + 1 + 1 + 1, 0, none⟩) 1 1) ∧ W.cell? ⟨w.heap.size + 1 + 1 + 1 + 1 + 1 + 1, 2, none⟩ = some (.slice none 0 0) := by rw [hW]; simp [go_sem]
  have hWs : W.heap.size = w.heap.size + 7 := by rw [hW]; simp
  have hWb : Below w.heap.size w W := by rw [hW]; exact bel_new (bel_new (bel_new (bel_new (bel_new (bel_new (bel_new (Below.refl _ _) _) _) _) _) _) _) _
  have hW0 : W.heap[w.heap.size]? = some (.cells #[.slice none 0 0, .slice none 0 0] 35 (0, 0)) ∧ W.heap[w.heap.size + 1 + 1]? = some (.cells #[.int .i32 99, .int .i32 99] 53 (0, 0)) ∧ W.heap[w.heap.size + 1 + 1 + 1 + 1]? = some (.cells #[.int .i32 100, .int .i32 100] 53 (0, 0)) := by
    have h := allocs_heap [.cells #[.slice none 0 0, .slice none 0 0] 35, .cells #[.int .i64 2, .slice (some ⟨w.heap.size + 1 + 1, 0, none⟩) 1 1, .slice none 0 0] 25, .cells #[.int .i32 99, .int .i32 99] 53, .cells #[.int .i64 2, .slice (some ⟨w.heap.size + 1 + 1 + 1 + 1, 0, none⟩) 1 1, .slice none 0 0] 25, .cells #[.int .i32 100, .int .i32 100] 53, .cells #[.int .i64 2, .slice (some ⟨w.heap.size + 1 + 1, 0, none⟩) 1 1, .slice none 0 0] 25, .cells #[.int .i64 2, .slice (some ⟨w.heap.size + 1 + 1 + 1 + 1, 0, none⟩) 1 1, .slice none 0 0] 25] w
    rw [hW]
    exact ⟨h 0 (by simp), h 2 (by simp), h 4 (by simp)⟩
  have HW := Lib.hid (And.intro hWb hW0)
  clear hWb hW0
  clear hW
  obtain ⟨pc, hpc⟩ : ∃ p, p = w.heap.size + 1 + 1 + 1 + 1 + 1 := ⟨_, rfl⟩
  obtain ⟨pd, hpd⟩ : ∃ p, p = w.heap.size + 1 + 1 + 1 + 1 + 1 + 1 := ⟨_, rfl⟩
  rw [← hpd] at c1 ⊢
  rw [← hpc] at c0 ⊢
  obtain ⟨c00, c01, c02⟩ := c0
  obtain ⟨c10, c11, c12⟩ := c1
  have hpcl : pc < W.heap.size := by omega
  have hpdl : pd < W.heap.size := by omega
  have hpcn : ¬ pc = W.heap.size := by omega
  have hpdn : ¬ pd = W.heap.size := by omega
  have hpcn1 : ¬ pc = W.heap.size + 1 := by omega
  have hpdn1 : ¬ pd = W.heap.size + 1 := by omega
  have HP := Lib.hid (And.intro hpc (And.intro hpd hWs))
  clear hpc hpd hWs
  go_cut [5] (fun s5 wx => Mk0At w W wx s5)
  case first =>
    go_region_held3 (fun w' => w'.cell? ⟨pc, 0, none⟩ = some (.int .i64 2) ∧ w'.cell? ⟨pc, 1, none⟩ = some (.slice (some ⟨w.heap.size + 1 + 1, 0, none⟩) 1 1) ∧ w'.cell? ⟨pc, 2, none⟩ = some (.slice none 0 0) ∧ w'.cell? ⟨pd, 0, none⟩ = some (.int .i64 2) ∧ w'.cell? ⟨pd, 1, none⟩ = some (.slice (some ⟨w.heap.size + 1 + 1 + 1 + 1, 0, none⟩) 1 1) ∧ w'.cell? ⟨pd, 2, none⟩ = some (.slice none 0 0)) (first | trivial | (refine ⟨?_, ?_, ?_, ?_, ?_, ?_⟩ <;> refine (Below.cell (w := W) ?_ (by assumption)).trans (by assumption) <;> repeat (first | exact Below.refl _ _ | refine Below.drew ?_ | refine bel_new ?_ _ | (refine Below.setCell ?_ (by first | omega | (simp <;> omega)) _))))
      (first | (go_at_call 19; refine (one_exact _ _).mono ?_; rintro e w2 ⟨rfl, rfl⟩))
    all_goals (go_wp2_with (fail))
    all_goals go_meet
    all_goals (
      refine mk0_of fun wx hch => ?_
      unfold Mk0At
      apply Exists.intro
      apply Exists.intro
      apply Exists.intro
      apply Exists.intro
      refine ⟨rfl, ?_, ?_, ?_, hch.2.2.2.2.2, ?_, ?_, ?_, ?_⟩
      rotate_left 3
      · first | exact hch.2.2.2.2.1 | exact hch.2.2.2.1 | exact hch.2.2.1 | exact hch.2.1 | exact hch.1
      · first | exact hch.2.2.2.2.1 | exact hch.2.2.2.1 | exact hch.2.2.1 | exact hch.2.1 | exact hch.1
      · first | exact hch.2.2.2.2.1 | exact hch.2.2.2.1 | exact hch.2.2.1 | exact hch.2.1 | exact hch.1
      · first | exact hch.2.2.2.2.1 | exact hch.2.2.2.1 | exact hch.2.2.1 | exact hch.2.1 | exact hch.1
      all_goals omega)
  case rest =>
    obtain ⟨p5, pt, pa, pb, rfl, h5, ht, h5t, hbel, g5, gt, ga, gb⟩ := hcut
    have HG := Lib.hid (And.intro h5 (And.intro ht (And.intro h5t (And.intro hbel (And.intro g5 (And.intro gt (And.intro ga gb)))))))
    clear h5 ht h5t hbel g5 gt ga gb
    go_wp2_with fail
    obtain ⟨W4, hW4⟩ : ∃ W4, W4 = (wc.alloc (.cells #[.string ⟨#[111]⟩] 9)).alloc (.cells #[.string ⟨#[99]⟩] 9) := ⟨_, rfl⟩
    rw [← hW4]
    have hb4 : Below wc.heap.size wc W4 := by rw [hW4]; exact bel_new (bel_new (Below.refl _ _) _) _
    have HB4 := Lib.hid hb4
    clear hW4 hb4
    go_loopg [8] 0 (fun g s wx => g = 0 ∧ s = .int .i64 0 ∧ wx = W4)
    case atStart => exact ⟨rfl, rfl, rfl⟩
    case round =>
      obtain ⟨hg0, rfl, rfl⟩ := hrel
      obtain ⟨h5, ht, h5t, hbel, g5, gt, ga, gb⟩ := HG.out
      have hbb := bel_then hbel HB4.out
      have hp5 : p5 ≠ w.heap.size := by have := HP.out.2.2; omega
      have hr0 := bel_get hbb HW.out.2.1
      have hr5 := bel_get HB4.out g5
      have e5 : ∀ w' : World, w'.heap[p5]? = some (.cells #[.slice (some ⟨pt, 0, none⟩) 4 4, .slice none 0 0] 35 (0, 0)) → w'.cell? ⟨p5, 0, none⟩ = some (.slice (some ⟨pt, 0, none⟩) 4 4) ∧ w'.cell? ⟨p5, 1, none⟩ = some (.slice none 0 0) := fun w' h => by simp [World.cell?, h]
      obtain ⟨k0, k1⟩ := e5 _ hr5
      have z0 : wr.cell? ⟨w.heap.size, 0, none⟩ = some (.slice none 0 0) ∧ wr.cell? ⟨w.heap.size, 1, none⟩ = some (.slice none 0 0) ∧ wr.frozen? ⟨w.heap.size, 0, none⟩ = false ∧ wr.frozen? ⟨w.heap.size, 1, none⟩ = false := by simp [World.cell?, World.frozen?, hr0]
      obtain ⟨z0, z1, z2, z3⟩ := z0
      clear h5 ht h5t hbel g5 gt ga gb hbb hr0 hr5 e5
      go_wp2
      simp [bodyPost, results, Tryz.results16, go_sem, z0, z1, z2, z3]
      obtain ⟨h5, ht, h5t, hbel, g5, gt, ga, gb⟩ := HG.out
      have hws := HP.out.2.2
      have hoth : ∀ k, k ≠ w.heap.size → ((wr.setCell ⟨w.heap.size, 0, none⟩ (.slice (some ⟨pt, 0, none⟩) 4 4)).setCell ⟨w.heap.size, 1, none⟩ (.slice none 0 0)).heap[k]? = wr.heap[k]? := fun k hk => by
        rw [Below.heap_setCell _ _ _ _ (by simpa using hk), Below.heap_setCell _ _ _ _ (by simpa using hk)]
      have hlt : ∀ {k : Nat} {o : Obj}, W.heap[k]? = some o → k < w.heap.size + 7 := fun h => by have := hp_lt h; omega
      have hwb : ∀ {k : Nat} {o : Obj}, W.heap[k]? = some o → wr.heap[k]? = some o := fun h => bel_get (bel_then hbel HB4.out) h
      have hpa : pa ≠ w.heap.size := fun e => by
        have h1 := bel_get hbel HW.out.2.1
        rw [e, h1] at ga; simp at ga
      have hpb : pb ≠ w.heap.size := fun e => by
        have h1 := bel_get hbel HW.out.2.1
        rw [e, h1] at gb; simp at gb
      refine ⟨pa, pb, w.heap.size + 1 + 1, w.heap.size + 1 + 1 + 1 + 1, ((bel_then (bel_then HW.out.1 hbel) HB4.out).setCell (by simp) _).setCell (by simp) _, by omega, ?_, ?_, ?_, ?_, ?_⟩
      · rw [hoth _ (by omega)]; exact bel_get HB4.out gt
      · rw [hoth _ hpa]; exact bel_get HB4.out ga
      · rw [hoth _ hpb]; exact bel_get HB4.out gb
      · rw [hoth _ (by omega)]; exact hwb HW.out.2.2.1
      · rw [hoth _ (by omega)]; exact hwb HW.out.2.2.2
end Go.Proofs.YtbanmggkfpnalaaGreatDoor

namespace Go.Proofs.YtbanmggkfpnalaaGreatDoor
open Go.RowKit Ru

def tkA : TK := ⟨⟨#[97]⟩, 0, 1, .mk 2 [(97, 97)] []⟩
def T0 : List TK := [tkA, ⟨⟨#[98]⟩, 0, 2, .mk 2 [(10, 10), (98, 98)] []⟩, ⟨⟨#[111]⟩, 1, 3, .mk 2 [(99, 99)] []⟩, ⟨⟨#[99]⟩, 2, 4, .mk 2 [(100, 100)] []⟩]
theorem row_block {w : World} {g n size : Nat} {cs : Array Value} {e : TypeId} (h : w.heap[g]? = some (.cells cs e (0, 0))) (hs : cs.size = n * size) (hn : n ≤ maxLen) : w.ownsRow g e size (.slice (some ⟨g, 0, none⟩) n n) n cs.toList :=
  ⟨by simpa using hs, .inr ⟨g, n, cs, rfl, Nat.le_refl _, h, Nat.le_refl _, hn, hs, List.take_of_length_le (by simp [hs])⟩⟩
theorem re_set {w : World} {p : Nat} (s : List (Int × Int)) (n : Nat) (hn : n = s.length) (hl : n ≤ 1000) (h : w.heap[p]? = some (.cells (flatK .i32 s).toArray 53 (0, 0))) : ReIs w (.mk 2 s []) (.slice (some ⟨p, 0, none⟩) n n) (.slice none 0 0) := by
  subst hn
  have hz : (flatK .i32 s).length = s.length * 2 := by
    clear h hl
    induction s with
    | nil => rfl
    | cons a l ih => simp [flatK] at *; omega
  have hr := Row.owned (row_block (n := s.length) (size := 2) h (by simpa using hz) (by unfold maxLen; omega))
  exact .mk 2 s [] _ _ [] (by simpa using hr) (Row.nil w) rfl (fun i e p h => by simp at h) (fun i e p h => by simp at h)
theorem Mk0.owns {w w' : World} {pt ra rb rc rd : Nat} (h : Mk0 w w' pt ra rb rc rd) : w'.ownsRow w.heap.size 61 6 (.slice (some ⟨pt, 0, none⟩) 4 4) 4 (t0cells ra rb rc rd).toList :=
  owns_base (row_block h.ht (by simp) (by decide)) h.ge
theorem Mk0.toks {w w' : World} {pt ra rb rc rd : Nat} (h : Mk0 w w' pt ra rb rc rd) : TksAre w' (.slice (some ⟨pt, 0, none⟩) 4 4) T0 := by
  refine ⟨[(tkA, .slice (some ⟨ra, 0, none⟩) 1 1, .slice none 0 0), (⟨⟨#[98]⟩, 0, 2, .mk 2 [(10, 10), (98, 98)] []⟩, .slice (some ⟨rb, 0, none⟩) 2 2, .slice none 0 0), (⟨⟨#[111]⟩, 1, 3, .mk 2 [(99, 99)] []⟩, .slice (some ⟨rc, 0, none⟩) 1 1, .slice none 0 0), (⟨⟨#[99]⟩, 2, 4, .mk 2 [(100, 100)] []⟩, .slice (some ⟨rd, 0, none⟩) 1 1, .slice none 0 0)], rfl, Row.owned h.owns, ?_⟩
  intro i p hp
  match i, hp with
  | 0, hp => cases hp; exact re_set [(97, 97)] 1 rfl (by decide) h.ha
  | 1, hp => cases hp; exact re_set [(10, 10), (98, 98)] 2 rfl (by decide) h.hb
  | 2, hp => cases hp; exact re_set [(99, 99)] 1 rfl (by decide) h.hc
  | 3, hp => cases hp; exact re_set [(100, 100)] 1 rfl (by decide) h.hd
  | (n + 4), hp => simp at hp
theorem Mk0.moved {w w' w'' : World} {pt ra rb rc rd : Nat} (h : Mk0 w w' pt ra rb rc rd) (hb : Below w'.heap.size w' w'') : Mk0 w w'' pt ra rb rc rd :=
  ⟨bel_then h.bel hb, h.ge, bel_get hb h.ht, bel_get hb h.ha, bel_get hb h.hb, bel_get hb h.hc, bel_get hb h.hd⟩
theorem re_fit {k : Int} {s : List (Int × Int)} (hi : i32s s) (h : s.length ≤ 1000) : (RE.mk k s []).Fit := .mk k s [] hi h (by simp) (fun i e h => by simp at h)
theorem T0_fit : TFit T0 := by
  intro i t ht
  match i, ht with
  | 0, ht => cases ht; exact ⟨by decide, re_fit (by unfold i32s; decide) (by decide)⟩
  | 1, ht => cases ht; exact ⟨by decide, re_fit (by unfold i32s; decide) (by decide)⟩
  | 2, ht => cases ht; exact ⟨by decide, re_fit (by unfold i32s; decide) (by decide)⟩
  | 3, ht => cases ht; exact ⟨by decide, re_fit (by unfold i32s; decide) (by decide)⟩
  | (n + 4), ht => simp [T0] at ht
theorem infoToken : ∃ i, Tryz.prog.info? 61 = some i ∧ i.zero = some (.agg #[.string ⟨#[]⟩, .int .i64 0, .int .i64 0, .int .i64 0, .slice none 0 0, .slice none 0 0]) ∧ i.size = 6 ∧ i.bytes = 88 := info_parts (by kernel_rfl)
def ptWell : PT := .mk 4 [] [] []
structure TW (w wi : World) (pg pt ra rb rc rd : Nat) : Prop where
  m0 : Mk0 w wi pt ra rb rc rd
  hg : wi.heap[pg]? = some (.cells #[.slice (some ⟨pt, 0, none⟩) 4 4, .slice none 0 0] 35 (0, 0))
  ge : w.heap.size ≤ pg
theorem TW.moved {w wi wj : World} {pg pt ra rb rc rd : Nat} (h : TW w wi pg pt ra rb rc rd) (hb : Below wi.heap.size wi wj) : TW w wj pg pt ra rb rc rd := ⟨h.m0.moved hb, bel_get hb h.hg, h.ge⟩
theorem TW.cells {w wi : World} {pg pt ra rb rc rd : Nat} (h : TW w wi pg pt ra rb rc rd) : wi.cell? ⟨pg, 0, none⟩ = some (.slice (some ⟨pt, 0, none⟩) 4 4) ∧ wi.cell? ⟨pg, 1, none⟩ = some (.slice none 0 0) ∧ pg < wi.heap.size ∧ pt < wi.heap.size := by
  have := h.hg
  exact ⟨by simp [World.cell?, this], by simp [World.cell?, this], hp_lt this, hp_lt h.m0.ht⟩
theorem pt_well (w : World) : PtIs w ptWell (.slice none 0 0) (.slice none 0 0) (.slice none 0 0) :=
  .mk 4 [] [] [] _ _ _ [] (Row.nil w) (Row.nil w) (Row.nil w) rfl (fun i c p h => by simp at h) (fun i c p h => by simp at h)
theorem row_drew {w : World} {v : Value} {n : Nat} {cs : List Value} (h : Row w v n cs) : Row w.drew v n cs := h.below (Below.refl _ _).drew
theorem al_fst (w : World) (a b : Obj) : ((w.alloc a).alloc b).drew.heap[w.heap.size]? = some a := by
  rw [drew_heap, Below.heap_alloc _ _ _ (by simp)]; exact heap_alloc_new w a
structure TH (w wx : World) (pg pt ra rb rc rd ph : Nat) (o9 : Option Addr) (c9 : Nat) : Prop where
  tw : TW w wx pg pt ra rb rc rd
  hh : wx.heap[ph]? = some (.cells #[.slice o9 5 c9, .slice none 0 0] 35 (0, 0))
  th : TksAre wx (.slice o9 5 c9) (T0 ++ [tkA])
theorem TH.moved {w wi wj : World} {pg pt ra rb rc rd ph c9 : Nat} {o9 : Option Addr} (h : TH w wi pg pt ra rb rc rd ph o9 c9) (hb : Below wi.heap.size wi wj) : TH w wj pg pt ra rb rc rd ph o9 c9 := ⟨h.tw.moved hb, bel_get hb h.hh, h.th.moved hb⟩
theorem TH.cells {w wi : World} {pg pt ra rb rc rd ph c9 : Nat} {o9 : Option Addr} (h : TH w wi pg pt ra rb rc rd ph o9 c9) : wi.cell? ⟨ph, 0, none⟩ = some (.slice o9 5 c9) ∧ wi.cell? ⟨ph, 1, none⟩ = some (.slice none 0 0) := by
  have := h.hh
  exact ⟨by simp [World.cell?, this], by simp [World.cell?, this]⟩
end Go.Proofs.YtbanmggkfpnalaaGreatDoor
