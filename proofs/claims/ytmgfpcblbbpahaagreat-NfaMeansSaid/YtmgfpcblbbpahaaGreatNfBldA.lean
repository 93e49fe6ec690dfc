/- nfa.Build: what it holds while it goes. -/
import Derived.Test.YtmgfpcblbbpahaaGreatNfAdd
import Derived.Test.YtmgfpcblbbpahaaGreatNfSets
import Derived.Test.YtmgfpcblbbpahaaGreatNfNext
import Derived.Laws.OwnMore
set_option linter.unusedVariables false
set_option linter.unusedSimpArgs false
namespace Go.Proofs.YtmgfpcblbbpahaaGreat
open Go.RowKit Ru

theorem Rws.one {w : World} {B : Nat} {v : Value} {ss : List Value} {S : List (List Pc)} (h : Rws w B v ss S) : ∀ u ∈ ss, u.oneCell' = true := by
  intro u hu
  obtain ⟨i, hi, rfl⟩ := List.mem_iff_getElem.1 hu
  have h1 := Row.owned (h.parts i (by rw [← h.len]; exact hi))
  rw [List.getD_eq_getElem?_getD, List.getElem?_eq_getElem hi, Option.getD_some] at h1
  obtain ⟨o, c, e, _⟩ := h1
  rw [e]; rfl
/-- the sets, one expression behind the other -/
structure B1 (w0 w : World) (pb : Nat) (v : Value) (ss : List Value) (S : List (List Pc)) : Prop where
  bel : Below w0.heap.size w0 w
  cn : w.heap[pb]? = some (.cells #[v, .slice none 0 0, .slice none 0 0, .slice none 0 0] 58 (0, 0))
  low : w0.heap.size ≤ pb
  rws : Rws w w0.heap.size v ss S
theorem cells4_of {w : World} {b : Nat} {x y z u : Value} {t : TypeId} (h : w.heap[b]? = some (.cells #[x, y, z, u] t (0, 0))) :
    (w.cell? ⟨b, 0, none⟩ = some x ∧ w.cell? ⟨b, 1, none⟩ = some y ∧ w.cell? ⟨b, 2, none⟩ = some z ∧ w.cell? ⟨b, 3, none⟩ = some u) ∧ (w.frozen? ⟨b, 0, none⟩ = false ∧ w.frozen? ⟨b, 1, none⟩ = false ∧ w.frozen? ⟨b, 2, none⟩ = false ∧ w.frozen? ⟨b, 3, none⟩ = false) := by
  refine ⟨⟨?_, ?_, ?_, ?_⟩, ?_, ?_, ?_, ?_⟩ <;> simp [World.cell?, World.frozen?, h]
theorem set4_of {w : World} {b : Nat} {x y z u : Value} {t : TypeId} (h : w.heap[b]? = some (.cells #[x, y, z, u] t (0, 0))) (a : Value) :
    (w.setCell ⟨b, 0, none⟩ a).heap[b]? = some (.cells #[a, y, z, u] t (0, 0)) ∧ (w.setCell ⟨b, 1, none⟩ a).heap[b]? = some (.cells #[x, a, z, u] t (0, 0)) ∧ (w.setCell ⟨b, 2, none⟩ a).heap[b]? = some (.cells #[x, y, a, u] t (0, 0)) ∧ (w.setCell ⟨b, 3, none⟩ a).heap[b]? = some (.cells #[x, y, z, a] t (0, 0)) := by
  refine ⟨?_, ?_, ?_, ?_⟩ <;> simp [World.setCell, Array.getElem?_modify, h]
section
variable {w0 w w' w1 w8 : World} {pb : Nat} {v v' v2 : Value} {ss ss2 : List Value} {S S2 : List (List Pc)}
theorem B1.moved (h : B1 w0 w pb v ss S) (hb : Below w.heap.size w w') : B1 w0 w' pb v ss S := ⟨h.bel.trans (hb.mono h.bel.size), bel_get hb h.cn, h.low, h.rws.moved hb⟩
theorem B1.append (h : B1 w0 w pb v ss S) (hX : Below w.heap.size w w1) (h2 : Rws w1 w0.heap.size v2 ss2 S2) (hown : w8.ownsRow w0.heap.size 39 1 v' (S.length + S2.length) (ss ++ ss2)) (hg : w1.grownBy w8 v.ownBlock) :
    B1 w0 (w8.setCell ⟨pb, 0, none⟩ v') pb v' (ss ++ ss2) (S ++ S2) := by
  have h1 := h.moved hX
  have hn : v.ownBlock ≠ some pb := own_apart h1.rws.own h1.cn (by decide)
  have cn8 : w8.heap[pb]? = some (.cells #[v, .slice none 0 0, .slice none 0 0, .slice none 0 0] 58 (0, 0)) := (hg.block pb (hp_lt h1.cn) (fun e => hn e.symm)).trans h1.cn
  refine ⟨?_, (set4_of cn8 _).1, h.low, (h1.rws.append h2.len h2.parts hown hg).set (p := ⟨pb, 0, none⟩) cn8 (by decide) (by decide) _⟩
  refine Below.setCell ?_ (p := ⟨pb, 0, none⟩) h.low _
  exact h1.bel.grown hg h1.bel.size (fun k hk => (h1.rws.own.lt k hk).1)
end
theorem inF_typ {w : World} {B fb k : Nat} {vs : List Value} {F : List (List Int)} (h : Fol w B fb vs F) (hk : inF vs fb k) : ∃ cs t, w.heap[k]? = some (.cells cs t (0, 0)) ∧ (t = 23 ∨ t = 3) := by
  rcases hk with rfl | ⟨i, hi, hk⟩
  · exact ⟨_, _, h.tab, .inl rfl⟩
  · obtain ⟨cur, hc⟩ := own_typ (h.own i (by rw [← h.len]; exact hi)) hk
    exact ⟨_, _, hc, .inr rfl⟩
/-- a row of the followers has been turned, and its new value stored -/
theorem AS.putF {w0 w w1 : World} {fb eb pb : Nat} {vs us : List Value} {F E : List (List Int)} (h : AS w0 w fb eb pb vs us F E) {i : Nat} (hi : i < F.length) {v' : Value} {r : List Int} (hown : w1.ownsRow w0.heap.size 3 1 v' r.length (ints1 r)) (hg : w.grownBy w1 (vs.getD i undef).ownBlock)
    (hp : ∀ k, v'.ownBlock = some k → (vs.getD i undef).ownBlock = some k ∨ w.heap.size ≤ k) :
    AS w0 (w1.setCell ⟨fb, i, none⟩ v') fb eb pb (vs.set i v') us (F.set i r) E ∧ Ta fb eb w vs us (w1.setCell ⟨fb, i, none⟩ v') (vs.set i v') us := by
  obtain ⟨h1, hag, h3⟩ := h.fol.put hi hown hg hp
  have hpb := hag.block pb h.pl h.far.1
  refine ⟨⟨h1, h.ens.ag (hag.sub fun k hk hin hf => h.two k hf hin), Nat.lt_of_lt_of_le h.pl hag.size, ?_, ?_, ⟨fun hin => ?_, h.far.2⟩, fun k hk hin => ?_, h.low, h.bel.trans (hag.below h.bel.size fun k hk hin => by have := (inF_lt h.fol hin).2; omega)⟩, ⟨hag.sub fun k _ hk => hk.1, h3, fun j hj => .inl hj⟩⟩
  · rw [List.length_set, ← h.pc]; simp only [World.cell?]; rw [hpb]
  · rw [← h.pe]; simp only [World.cell?]; rw [hpb]
  · rcases h3 pb hin with h4 | h4
    · exact h.far.1 h4
    · have := h.pl; omega
  · rcases h3 k hk with h4 | h4
    · exact h.two k h4 hin
    · have := (inF_lt h.ens hin).1; omega
/-- the machine with its tables, its sets and the next place -/
structure BSt (w0 w : World) (fb eb qn pb : Nat) (vs us : List Value) (sv : Value) (ss : List Value) (S : List (List Pc)) (F E : List (List Int)) (n : Int) : Prop where
  ast : AS w0 w fb eb pb vs us F E
  box : w.heap[qn]? = some (.cells #[.int .i64 n] 3 (0, 0))
  qf : ¬ inF vs fb qn ∧ ¬ inF us eb qn ∧ pb ≠ qn ∧ w0.heap.size ≤ qn
  pn : w.heap[pb]? = some (.cells #[sv, .slice (some ⟨fb, 0, none⟩) F.length F.length, .slice (some ⟨eb, 0, none⟩) E.length E.length, .slice none 0 0] 58 (0, 0))
  rws : Rws w w0.heap.size sv ss S
section
variable {w0 w w' w1 : World} {fb eb qn pb : Nat} {vs us vs' us' : List Value} {sv : Value} {ss : List Value} {S : List (List Pc)} {F E F' E' : List (List Int)} {n n' : Int}
theorem BSt.moved (h : BSt w0 w fb eb qn pb vs us sv ss S F E n) (hb : Below w.heap.size w w') : BSt w0 w' fb eb qn pb vs us sv ss S F E n :=
  ⟨h.ast.moved hb, bel_get hb h.box, h.qf, bel_get hb h.pn, h.rws.moved hb⟩
theorem BSt.next (h : BSt w0 w fb eb qn pb vs us sv ss S F E n) (ha : AS w0 w' fb eb pb vs' us' F' E') (hag : Ag (fun j => ¬ inF vs fb j ∧ ¬ inF us eb j ∧ j ≠ qn) w w') (nf : ∀ j, inF vs' fb j → inF vs fb j ∨ w.heap.size ≤ j) (ne : ∀ j, inF us' eb j → inF us eb j ∨ w.heap.size ≤ j)
    (hbox : w'.heap[qn]? = some (.cells #[.int .i64 n'] 3 (0, 0))) (lF : F'.length = F.length) (lE : E'.length = E.length) : BSt w0 w' fb eb qn pb vs' us' sv ss S F' E' n' := by
  have hq := hp_lt h.box
  refine ⟨ha, hbox, ⟨fun hin => ?_, fun hin => ?_, h.qf.2.2⟩, ?_, ?_⟩
  · rcases nf qn hin with h4 | h4
    · exact h.qf.1 h4
    · omega
  · rcases ne qn hin with h4 | h4
    · exact h.qf.2.1 h4
    · omega
  · rw [hag.block pb (hp_lt h.pn) ⟨h.ast.far.1, h.ast.far.2, h.qf.2.2.1⟩, lF, lE]; exact h.pn
  · refine h.rws.ag hag fun i cs t z hi ht => ⟨fun hin => ?_, fun hin => ?_, fun e => ?_⟩
    · obtain ⟨cs', t', h1, h2⟩ := inF_typ h.ast.fol hin
      rw [hi] at h1
      simp at h1
      obtain ⟨_, rfl, _⟩ := h1
      rcases ht with rfl | rfl <;> rcases h2 with h2 | h2 <;> exact absurd h2 (by decide)
    · obtain ⟨cs', t', h1, h2⟩ := inF_typ h.ast.ens hin
      rw [hi] at h1
      simp at h1
      obtain ⟨_, rfl, _⟩ := h1
      rcases ht with rfl | rfl <;> rcases h2 with h2 | h2 <;> exact absurd h2 (by decide)
    · subst e
      rw [h.box] at hi
      simp at hi
      obtain ⟨_, rfl, _⟩ := hi
      rcases ht with h2 | h2 <;> exact absurd h2 (by decide)
theorem BSt.ps (h : BSt w0 w fb eb qn pb vs us sv ss S F E n) : PS w0 w fb qn pb vs F n :=
  ⟨h.ast.fol, h.box, h.ast.pl, h.ast.pc, ⟨h.ast.far.1, h.qf.1, h.qf.2.2.1⟩, ⟨h.qf.2.2.2, h.ast.low⟩, h.ast.bel⟩
/-- behind part -/
theorem BSt.parted {r : (Bool × List Int × List Int) × Int × List (List Int)} {fv lv : Value} (h : BSt w0 w fb eb qn pb vs us sv ss S F E n) (hp : PPost w0 w fb qn pb vs r fv lv w') (lF : r.2.2.length = F.length) :
    ∃ vs', BSt w0 w' fb eb qn pb vs' us sv ss S r.2.2 E r.2.1 ∧ KP (fun j => ¬ inF vs' fb j ∧ ¬ inF us eb j) w' (fun x => Row x fv r.1.2.1.length (ints1 r.1.2.1)) ∧ KP (fun j => ¬ inF vs' fb j ∧ ¬ inF us eb j) w' (fun x => Row x lv r.1.2.2.length (ints1 r.1.2.2)) := by
  obtain ⟨⟨vs', h1, h2, h3⟩, h4⟩ := hp
  have hpb := h4.block pb h.ast.pl ⟨h.ast.far.1, h.qf.2.2.1⟩
  have hsub : ∀ k, k < w'.heap.size → (w.heap.size ≤ k ∧ k < w'.heap.size ∧ ¬ inF vs' fb k) → (¬ inF vs' fb k ∧ ¬ inF us eb k) := fun k _ hk => ⟨hk.2.2, fun hin => by have := (inF_lt h.ast.ens hin).1; omega⟩
  refine ⟨vs', h.next ⟨h1.fol, h.ast.ens.ag (h4.sub fun k _ hin => ⟨fun hf => h.ast.two k hf hin, fun e => h.qf.2.1 (e ▸ hin)⟩), h1.pl, h1.pc, ?_, ⟨h1.far.1, h.ast.far.2⟩, fun k hk hin => ?_, h.ast.low, h1.bel⟩ (h4.sub fun k _ hk => ⟨hk.1, hk.2.2⟩) h2 (fun j hj => .inl hj) h1.box lF rfl, (h3.sub hsub).mono fun _ h => h.1, (h3.sub hsub).mono fun _ h => h.2⟩
  · rw [← h.ast.pe]; simp only [World.cell?]; rw [hpb]
  · rcases h2 k hk with h5 | h5
    · exact h.ast.two k h5 hin
    · have := (inF_lt h.ast.ens hin).1; omega
/-- behind add -/
theorem BSt.added (h : BSt w0 w fb eb qn pb vs us sv ss S F E n) (hp : EndAt w0 w fb eb pb vs us F' E' w') (lF : F'.length = F.length) (lE : E'.length = E.length) : ∃ vs' us', BSt w0 w' fb eb qn pb vs' us' sv ss S F' E' n := by
  obtain ⟨vs', us', h1, h2⟩ := hp.st
  refine ⟨vs', us', h.next h1 (h2.ag.sub fun k _ hk => ⟨hk.1, hk.2.1⟩) h2.nf h2.ne ?_ lF lE⟩
  rw [h2.ag.block qn (hp_lt h.box) ⟨h.qf.1, h.qf.2.1⟩]; exact h.box
/-- a row of the followers in order -/
theorem BSt.rowed (h : BSt w0 w fb eb qn pb vs us sv ss S F E n) {i : Nat} (hi : i < F.length) {v' : Value} {r : List Int} (hown : w1.ownsRow w.heap.size 3 1 v' r.length (ints1 r)) (hb : Below w.heap.size w w1) :
    BSt w0 (w1.setCell ⟨fb, i, none⟩ v') fb eb qn pb (vs.set i v') us sv ss S (F.set i r) E n := by
  obtain ⟨h1, h2⟩ := h.ast.putF hi (w1 := w1) (owns_base hown h.ast.bel.size) ⟨hb.os, hb.tape, hb.output, hb.size, fun k hk _ => hb.block k hk⟩ (fun k hk => .inr (hown.lt k hk).1)
  refine h.next h1 (h2.ag.sub fun k _ hk => ⟨hk.1, hk.2.1⟩) h2.nf h2.ne ?_ (by simp) rfl
  rw [h2.ag.block qn (hp_lt h.box) ⟨h.qf.1, h.qf.2.1⟩]; exact h.box
end
theorem rowsN_of {w : World} {B fb : Nat} {vs : List Value} {F : List (List Int)} (h : Fol w B fb vs F) : RowsN w (.slice (some ⟨fb, 0, none⟩) F.length F.length) vs F := by
  refine ⟨h.len, ?_, fun i hi => Row.owned (h.own i hi)⟩
  have := Row.owned (afrow_block (w := w) (g := fb) (n := F.length) (size := 1) h.tab (by simp [h.len]) (by have := h.few; unfold maxLen; omega))
  simpa using this
theorem rowsR_of {w : World} {B : Nat} {v : Value} {ss : List Value} {S : List (List Pc)} (h : Rws w B v ss S) : Rn.RowsR w v ss S := ⟨h.len, Row.owned h.own, fun i hi => Row.owned (h.parts i hi)⟩
namespace Nf
/-- the first k rows in order -/
def ordK (F : List (List Int)) (k : Nat) : List (List Int) := (F.take k).map ordL ++ F.drop k
theorem ordK_len (F : List (List Int)) (k : Nat) : (ordK F k).length = F.length := by simp [ordK]; omega
theorem ordK_get (F : List (List Int)) (k : Nat) (h : k < F.length) : (ordK F k).getD k [] = F.getD k [] := by
  have hl : ((F.take k).map ordL).length = k := by simp; omega
  rw [List.getD_eq_getElem?_getD, List.getD_eq_getElem?_getD, ordK, List.getElem?_append_right (by omega), hl]
  simp
theorem ordK_next (F : List (List Int)) (k : Nat) (h : k < F.length) : ordK F (k + 1) = (ordK F k).set k (ordL (F.getD k [])) := by
  have hl : ((F.take k).map ordL).length = k := by simp; omega
  rw [ordK, ordK, List.set_append_right _ _ (by omega), hl, Nat.sub_self, List.drop_eq_getElem_cons h, List.set_cons_zero, List.getD_eq_getElem?_getD, List.getElem?_eq_getElem h, List.take_add_one, List.getElem?_eq_getElem h, List.map_append, List.append_assoc]
  rfl
theorem ordK_all (F : List (List Int)) : ordK F F.length = F.map ordL := by simp [ordK]
end Nf
/-- a table of empty rows is made -/
theorem mk_rows (N : Nat) (hN : N ≤ 4000) (W : World) : (Instr.makeSlice 22 (.int .i64 (N : Int)) (.int .i64 (N : Int))).run Tryz.prog W = .ok (.slice (some ⟨W.heap.size, 0, none⟩) N N) (W.alloc (.cells (List.replicate N (Value.slice none 0 0)).toArray 23)) := by
  obtain ⟨ij, hj0, hj1, hj2, hj3⟩ : ∃ i, Tryz.prog.info? 23 = some i ∧ i.zero = some (.slice none 0 0) ∧ i.size = 1 ∧ i.bytes = 24 := info_parts (by kernel_rfl)
  have h := run_make (P := Tryz.prog) W 22 23 ij (.slice none 0 0) Tryz.underlying22 hj0 hj1 .i64 .i64 (N : Int) (N : Int) (by omega) (Int.le_refl _) (by rw [hj3]; omega) (by omega)
  rw [h, hj2]
  have e : madeCells (Value.slice none 0 0).cells ((N : Int).toNat * 1) = (List.replicate N (Value.slice none 0 0)).toArray := by
    apply Array.toList_inj.1
    rw [show ((N : Int).toNat * 1) = N by simp]
    exact toList_madeCells_one (Value.slice none 0 0) N
  rw [e]
  simp
theorem inF_repl {N fb k : Nat} (h : inF (List.replicate N (Value.slice none 0 0)) fb k) : k = fb := by
  rcases h with h | ⟨i, hi, hk⟩
  · exact h
  · rw [List.length_replicate] at hi
    rw [List.getD_eq_getElem?_getD, List.getElem?_replicate, if_pos hi] at hk
    simp [Value.ownBlock] at hk
theorem fol_repl {w : World} {B fb N : Nat} (h : w.heap[fb]? = some (.cells (List.replicate N (Value.slice none 0 0)).toArray 23 (0, 0))) (hB : B ≤ fb) (hN : N ≤ 4000) : Fol w B fb (List.replicate N (Value.slice none 0 0)) (List.replicate N []) := by
  refine ⟨by simp, h, fun i hi => ?_, fun i j k hi hj h1 h2 => ?_, hB, by simpa using hN⟩
  · rw [List.length_replicate] at hi
    rw [List.getD_eq_getElem?_getD, List.getElem?_replicate, if_pos hi, List.getD_eq_getElem?_getD, List.getElem?_replicate, if_pos hi]
    exact World.ownsRow_nil _ _ _ _
  · rw [List.length_replicate] at hi
    rw [List.getD_eq_getElem?_getD, List.getElem?_replicate, if_pos hi] at h1
    simp [Value.ownBlock] at h1
theorem b2_start {w0 wr W : World} {pb N : Nat} {v : Value} {ss : List Value} {S : List (List Pc)} (h : B1 w0 wr pb v ss S) (hN : N ≤ 4000)
    (hW : W = ((((wr.setCell ⟨pb, 1, none⟩ (.slice (some ⟨wr.heap.size, 0, none⟩) N N)).setCell ⟨pb, 2, none⟩ (.slice (some ⟨wr.heap.size + 1, 0, none⟩) N N)).alloc (.cells (Array.replicate N (Value.slice none 0 0)) 23)).alloc (.cells (Array.replicate N (Value.slice none 0 0)) 23)).alloc (.cells #[.int .i64 1] 3)) :
    BSt w0 W wr.heap.size (wr.heap.size + 1) (wr.heap.size + 1 + 1) pb (List.replicate N (.slice none 0 0)) (List.replicate N (.slice none 0 0)) v ss S (List.replicate N []) (List.replicate N []) 1 := by
  obtain ⟨A, hA⟩ : ∃ A, A = Obj.cells (Array.replicate N (Value.slice none 0 0)) 23 (0, 0) := ⟨_, rfl⟩
  have hA2 : A = Obj.cells (List.replicate N (Value.slice none 0 0)).toArray 23 (0, 0) := by rw [hA, List.toArray_replicate]
  have hpl := hp_lt h.cn
  have hlow := h.low
  have hbs := h.bel.size
  obtain ⟨W1, h1⟩ : ∃ W1, W1 = wr.setCell ⟨pb, 1, none⟩ (.slice (some ⟨wr.heap.size, 0, none⟩) N N) := ⟨_, rfl⟩
  obtain ⟨W2, h2⟩ : ∃ W2, W2 = W1.setCell ⟨pb, 2, none⟩ (.slice (some ⟨wr.heap.size + 1, 0, none⟩) N N) := ⟨_, rfl⟩
  obtain ⟨W3, h3⟩ : ∃ W3, W3 = W2.alloc A := ⟨_, rfl⟩
  obtain ⟨W4, h4⟩ : ∃ W4, W4 = W3.alloc A := ⟨_, rfl⟩
  have hW5 : W = W4.alloc (.cells #[.int .i64 1] 3) := by rw [hW, h4, h3, h2, h1, hA]
  have z1 : W1.heap.size = wr.heap.size := by rw [h1]; simp [World.setCell]
  have z2 : W2.heap.size = wr.heap.size := by rw [h2]; simp [World.setCell, z1]
  have z3 : W3.heap.size = wr.heap.size + 1 := by rw [h3]; simp [z2]
  have z4 : W4.heap.size = wr.heap.size + 2 := by rw [h4]; simp [z3]
  have b3 : Below W2.heap.size W2 W3 := by rw [h3]; exact bel_new (Below.refl _ _) _
  have b4 : Below W3.heap.size W3 W4 := by rw [h4]; exact bel_new (Below.refl _ _) _
  have b5 : Below W4.heap.size W4 W := by rw [hW5]; exact bel_new (Below.refl _ _) _
  have p1 := (set4_of h.cn (.slice (some ⟨wr.heap.size, 0, none⟩) N N)).2.1
  rw [← h1] at p1
  have p2 := (set4_of p1 (.slice (some ⟨wr.heap.size + 1, 0, none⟩) N N)).2.2.1
  rw [← h2] at p2
  have p5 := bel_get b5 (bel_get b4 (bel_get b3 p2))
  have f3 : W3.heap[wr.heap.size]? = some A := by
    rw [h3]
    have := heap_alloc_new W2 A
    rwa [z2] at this
  have f5 := bel_get b5 (bel_get b4 f3)
  have e4 : W4.heap[wr.heap.size + 1]? = some A := by
    rw [h4]
    have := heap_alloc_new W3 A
    rwa [z3] at this
  have e5 := bel_get b5 e4
  have q5 : W.heap[wr.heap.size + 1 + 1]? = some (.cells #[.int .i64 1] 3 (0, 0)) := by
    rw [hW5]
    have := heap_alloc_new W4 (.cells #[.int .i64 1] 3)
    rwa [z4] at this
  have hB : Below w0.heap.size w0 W := by
    have a1 : Below w0.heap.size w0 W1 := by rw [h1]; exact h.bel.setCell (p := ⟨pb, 1, none⟩) hlow _
    have a2 : Below w0.heap.size w0 W2 := by rw [h2]; exact a1.setCell (p := ⟨pb, 2, none⟩) hlow _
    exact ((a2.trans (b3.mono (by omega))).trans (b4.mono (by omega))).trans (b5.mono (by omega))
  have hR : Rws W w0.heap.size v ss S := by
    have a1 : Rws W1 w0.heap.size v ss S := by rw [h1]; exact h.rws.set (p := ⟨pb, 1, none⟩) h.cn (by decide) (by decide) _
    have a2 : Rws W2 w0.heap.size v ss S := by rw [h2]; exact a1.set (p := ⟨pb, 2, none⟩) p1 (by decide) (by decide) _
    exact ((a2.moved b3).moved b4).moved b5
  rw [hA2] at f5 e5
  obtain ⟨⟨-, c1, c2, -⟩, -⟩ := cells4_of p5
  have hpW := hp_lt p5
  refine ⟨⟨fol_repl f5 hbs hN, fol_repl e5 (by omega) hN, hpW, ?_, ?_, ⟨fun hin => ?_, fun hin => ?_⟩, fun k hk hin => ?_, hlow, hB⟩, q5, ⟨fun hin => ?_, fun hin => ?_, by omega, by omega⟩, ?_, hR⟩
  · rw [List.length_replicate]; exact c1
  · rw [List.length_replicate]; exact c2
  · have := inF_repl hin; omega
  · have := inF_repl hin; omega
  · have := inF_repl hin; have := inF_repl hk; omega
  · have := inF_repl hin; omega
  · have := inF_repl hin; omega
  · rw [List.length_replicate]; exact p5
theorem nis_of {w0 w w5 : World} {fb eb qn pb cv cc : Nat} {vs us ss : List Value} {ov co : Option Addr} {S : List (List Pc)} {F E : List (List Int)} {C : List Pc} {n : Int} (h : BSt w0 w fb eb qn pb vs us (.slice ov S.length cv) ss S F E n)
    (hS : S.length ≤ 1000) (lF : F.length = S.length) (lE : E.length = S.length) (hsh : (∀ s ∈ S, s.length ≤ 1000) ∧ (∀ r ∈ F, r.length ≤ 1000) ∧ (∀ r ∈ E, r.length ≤ 1000)) (hfit : ∀ r ∈ F, ∀ x ∈ r, 0 ≤ x ∧ x < (S.length : Int))
    (hb : Below w.heap.size w w5) (hu : w5.ownsRow w.heap.size 54 2 (.slice co C.length cc) C.length (flatK .i32 C)) :
    NIs (w5.setCell ⟨pb, 3, none⟩ (.slice co C.length cc)) pb S F E C ov (some ⟨fb, 0, none⟩) (some ⟨eb, 0, none⟩) co cv F.length E.length cc ss vs us ∧ Below w0.heap.size w0 (w5.setCell ⟨pb, 3, none⟩ (.slice co C.length cc)) := by
  have h5 := h.moved hb
  have hp := (set4_of h5.pn (.slice co C.length cc)).2.2.2
  obtain ⟨⟨c0, c1, c2, c3⟩, -⟩ := cells4_of hp
  have hag : ∀ (X : Nat → Prop), ¬ X pb → Ag X w5 (w5.setCell ⟨pb, 3, none⟩ (.slice co C.length cc)) := fun X hX => (Ag.refl X w5).setCell hX _
  have hpl := h.ast.pl
  refine ⟨⟨hp_lt hp, c0, c1, c2, c3, rowsR_of (h5.rws.set (p := ⟨pb, 3, none⟩) h5.pn (by decide) (by decide) _), rowsN_of (h5.ast.fol.ag (hag _ h5.ast.far.1)), rowsN_of (h5.ast.ens.ag (hag _ h5.ast.far.2)), Row.owned (ownsRow_setCell_other hu (fun e => by have := (hu.lt pb e).1; omega) _), lF, lE, hS, hsh, hfit⟩, h5.ast.bel.setCell (p := ⟨pb, 3, none⟩) h5.ast.low _⟩
end Go.Proofs.YtmgfpcblbbpahaaGreat
