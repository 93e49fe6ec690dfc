/- goboref6.node: a set: one more position. -/
import Derived.Test.YtmgfpcblbbpahaaGreatNfRst
set_option linter.unusedVariables false
set_option linter.unusedSimpArgs false
namespace Go.Proofs.YtmgfpcblbbpahaaGreat
open Go.RowKit Ru Rn Rn.Ru

def A6 (A : Array Value) (s1 a1 s2 a2 s3 a3 s4 a4 : Value) : Act := { tmps := (((((((A.setIfInBounds 37 s1).setIfInBounds 38 a1).setIfInBounds 44 s2).setIfInBounds 45 a2).setIfInBounds 50 s3).setIfInBounds 51 a3).setIfInBounds 56 s4).setIfInBounds 57 a4, defers := [] }
def J6 (A : Array Value) (w0 W : World) (pb : Nat) (T : Nat → Prop) (vS vO v2 vL vF v5 : Value) (ss fs : List Value) (S : List (List Pc)) (O : List Int) (L : List Bool) (F : List (List Int)) (sv : Value) (q : Int) (b1 b2 b3 b4 : Bool) (c : Nat) (a : Act) (w : World) : Prop :=
  ∃ s1 a1 s2 a2 s3 a3 s4 a4, a = A6 A s1 a1 s2 a2 s3 a3 s4 a4 ∧ G6 w0 W pb T vS vO v2 vL vF v5 ss fs S O L F sv q b1 b2 b3 b4 c s1 a1 s2 a2 s3 a3 s4 a4 w
theorem reg6 {P : Program} {ops : Array Oper} {Q : Exit → Act → World → Prop} {C : World → Prop} {md : Region.Mode} {A : Array Value} {listed : Array Bool} {fuel m t pb : Nat} {w0 W w : World} {T : Nat → Prop} {vS vO v2 vL vF v5 : Value} {ss fs : List Value} {S : List (List Pc)} {O : List Int} {L : List Bool} {F : List (List Int)} {sv : Value} {q : Int}
    (hl : listed = L6 false false false false 0) (hf : fuel = 8 + m) (hb : (⟨A, []⟩ : Act) = A6 A undef undef undef undef undef undef undef undef) (hG : G6 w0 W pb T vS vO v2 vL vF v5 ss fs S O L F sv q false false false false 0 undef undef undef undef undef undef undef undef w)
    (hr : ∀ b1 b2 b3 b4 c, V6 b1 b2 b3 b4 c → c < 4 → Region.ready md ops (L6 b1 b2 b3 b4 c) = R6 b1 b2 b3 b4 c)
    (h1 : ∀ b2 b3 b4 a w, J6 A w0 W pb T vS vO v2 vL vF v5 ss fs S O L F sv q false b2 b3 b4 0 a w → wpOp P ops Q 10 (fun a' w' => C w' ∧ J6 A w0 W pb T vS vO v2 vL vF v5 ss fs S O L F sv q true b2 b3 b4 0 a' w') a w)
    (h2 : ∀ b1 b3 b4 c a w, c ≤ 1 → J6 A w0 W pb T vS vO v2 vL vF v5 ss fs S O L F sv q b1 false b3 b4 c a w → wpOp P ops Q 17 (fun a' w' => C w' ∧ J6 A w0 W pb T vS vO v2 vL vF v5 ss fs S O L F sv q b1 true b3 b4 c a' w') a w)
    (h3 : ∀ b1 b2 b4 c a w, c ≤ 2 → J6 A w0 W pb T vS vO v2 vL vF v5 ss fs S O L F sv q b1 b2 false b4 c a w → wpOp P ops Q 23 (fun a' w' => C w' ∧ J6 A w0 W pb T vS vO v2 vL vF v5 ss fs S O L F sv q b1 b2 true b4 c a' w') a w)
    (h4 : ∀ b1 b2 b3 c a w, c ≤ 3 → J6 A w0 W pb T vS vO v2 vL vF v5 ss fs S O L F sv q b1 b2 b3 false c a w → wpOp P ops Q 29 (fun a' w' => C w' ∧ J6 A w0 W pb T vS vO v2 vL vF v5 ss fs S O L F sv q b1 b2 b3 true c a' w') a w)
    (k1 : ∀ b2 b3 b4 a w, J6 A w0 W pb T vS vO v2 vL vF v5 ss fs S O L F sv q true b2 b3 b4 0 a w → wpOp P ops Q 11 (fun a' w' => C w' ∧ J6 A w0 W pb T vS vO v2 vL vF v5 ss fs S O L F sv q true b2 b3 b4 1 a' w') a w)
    (k2 : ∀ b3 b4 a w, J6 A w0 W pb T vS vO v2 vL vF v5 ss fs S O L F sv q true true b3 b4 1 a w → wpOp P ops Q 18 (fun a' w' => C w' ∧ J6 A w0 W pb T vS vO v2 vL vF v5 ss fs S O L F sv q true true b3 b4 2 a' w') a w)
    (k3 : ∀ b4 a w, J6 A w0 W pb T vS vO v2 vL vF v5 ss fs S O L F sv q true true true b4 2 a w → wpOp P ops Q 24 (fun a' w' => C w' ∧ J6 A w0 W pb T vS vO v2 vL vF v5 ss fs S O L F sv q true true true b4 3 a' w') a w)
    (k4 : ∀ a w, J6 A w0 W pb T vS vO v2 vL vF v5 ss fs S O L F sv q true true true true 3 a w → wpOp P ops Q 30 (fun a' w' => C w' ∧ J6 A w0 W pb T vS vO v2 vL vF v5 ss fs S O L F sv q true true true true 4 a' w') a w)
    (hend : ∀ a w, J6 A w0 W pb T vS vO v2 vL vF v5 ss fs S O L F sv q true true true true 4 a w → wpAnyT P md ops Q t C m (L6 true true true true 4) a w) :
    wpAnyT P md ops Q t C fuel listed ⟨A, []⟩ w := by
  subst hl; subst hf
  exact law6 (J6 A w0 W pb T vS vO v2 vL vF v5 ss fs S O L F sv q) hr h1 h2 h3 h4 k1 k2 k3 k4 hend 8 false false false false 0 _ w ⟨by omega, fun h => by omega, fun h => by omega, fun h => by omega, fun h => by omega⟩ rfl ⟨_, _, _, _, _, _, _, _, hb, hG⟩
/-- what the region's loads read -/
def C6 (pb eb : Nat) (vS vO v2 vL vF v5 sv : Value) (w : World) : Prop := w.heap[pb]? = some (.cells #[vS, vO, v2, vL, vF, v5] 49 (0, 0)) ∧ w.cell? ⟨eb, 1, none⟩ = some sv
theorem n_cells {w : World} {b : Nat} {x0 x1 x2 x3 x4 x5 : Value} {t : TypeId} (h : w.heap[b]? = some (.cells #[x0, x1, x2, x3, x4, x5] t (0, 0))) : w.cell? ⟨b, 0, none⟩ = some x0 ∧ w.cell? ⟨b, 1, none⟩ = some x1 ∧ w.cell? ⟨b, 2, none⟩ = some x2 ∧ w.cell? ⟨b, 3, none⟩ = some x3 ∧ w.cell? ⟨b, 4, none⟩ = some x4 ∧ w.cell? ⟨b, 5, none⟩ = some x5 := by
  refine ⟨?_, ?_, ?_, ?_, ?_, ?_⟩ <;> simp [World.cell?, h]
theorem n_froz {w : World} {b : Nat} {x0 x1 x2 x3 x4 x5 : Value} {t : TypeId} (h : w.heap[b]? = some (.cells #[x0, x1, x2, x3, x4, x5] t (0, 0))) : w.frozen? ⟨b, 0, none⟩ = false ∧ w.frozen? ⟨b, 1, none⟩ = false ∧ w.frozen? ⟨b, 2, none⟩ = false ∧ w.frozen? ⟨b, 3, none⟩ = false ∧ w.frozen? ⟨b, 4, none⟩ = false ∧ w.frozen? ⟨b, 5, none⟩ = false := by
  refine ⟨?_, ?_, ?_, ?_, ?_, ?_⟩ <;> simp [World.frozen?, h]

set_option maxRecDepth 100000 in
set_option maxHeartbeats 16000000 in
theorem node_set (w0 : World) (pb : Nat) (v2 v5 : Value) (s : List Pc) (sv lv : Value) (w : World) (T : Nat → Prop) (vS vO vL vF : Value) (ss fs : List Value) (S : List (List Pc)) (O : List Int) (L : List Bool) (F : List (List Int)) (q : Int)
    (h : RN w0 w pb T vS vO v2 vL vF v5 ss fs S O L F) (hS : S.length + 1 ≤ 1000) (hsv : Row w0 sv s.length (flatK .i32 s)) (hlv : ∃ o a c, lv = .slice o a c) :
    Calls Tryz.prog 45 #[.pointer (some ⟨pb, 0, none⟩), .agg #[.int .i64 2, sv, lv], .int .i64 q] w fun x w' => ∃ fv lv', x = .returned (.agg #[.bool false, fv, lv']) ∧ NPost w0 pb v2 v5 (.mk 2 s []) S O L F q T w fv lv' w' := by
  obtain ⟨oS, cS, eS⟩ := nf_slice h.sets
  obtain ⟨oO, cO, eO⟩ := nf_slice h.ofs
  obtain ⟨oL, cL, eL⟩ := nf_slice h.last
  obtain ⟨oF, cF, eF⟩ := nf_slice h.fol.tab
  have hsv0 := hsv
  have hform : ∃ o c, sv = .slice o s.length c := hsv.formI
  obtain ⟨o1, q1, rfl⟩ := hform
  obtain ⟨o2, a2, c2, rfl⟩ := hlv
  subst eS eO eL eF
  obtain ⟨g0, g1, g2, g3, g4, g5⟩ := n_cells h.blk
  have hpl := h.low.2
  have HLE := Lib.hid (And.intro h.lenO (And.intro h.lenL h.lenF))
  have H := Lib.hid h
  have HSV := Lib.hid hsv0
  clear h hsv hsv0
  go_enter Tryz.func45, Tryz.ntmps45
  go_wp2_with fail
  obtain ⟨W, hW⟩ : ∃ W, W = ((w.alloc (.cells #[.int .i64 2, .slice o1 s.length q1, .slice o2 a2 c2] 41)).alloc (.cells #[.bool false, .slice none 0 0, .slice none 0 0] 80)).alloc (.cells #[.int .i64 (S.length : Int)] 3) := ⟨_, rfl⟩
  rw [← hW]
  have hb1 : Below w.heap.size w W := by rw [hW]; exact bel_new (bel_new (bel_new (Below.refl _ _) _) _) _
  have hsW : W.heap.size = w.heap.size + 3 := by rw [hW]; simp
  have e0 : W.heap[w.heap.size]? = some (.cells #[.int .i64 2, .slice o1 s.length q1, .slice o2 a2 c2] 41 (0, 0)) := by
    rw [hW]; exact bel_get (bel_new (bel_new (Below.refl _ _) _) _) (World.alloc_heap_new w _)
  have e1 : W.heap[w.heap.size + 1]? = some (.cells #[.bool false, .slice none 0 0, .slice none 0 0] 80 (0, 0)) := by
    rw [hW]
    have := World.alloc_heap_new (w.alloc (.cells #[.int .i64 2, .slice o1 s.length q1, .slice o2 a2 c2] 41)) (.cells #[.bool false, .slice none 0 0, .slice none 0 0] 80)
    rw [World.size_alloc] at this
    exact bel_get (bel_new (Below.refl _ _) _) this
  have e2 : W.heap[w.heap.size + 2]? = some (.cells #[.int .i64 (S.length : Int)] 3 (0, 0)) := by
    rw [hW]
    have := World.alloc_heap_new ((w.alloc (.cells #[.int .i64 2, .slice o1 s.length q1, .slice o2 a2 c2] 41)).alloc (.cells #[.bool false, .slice none 0 0, .slice none 0 0] 80)) (.cells #[.int .i64 (S.length : Int)] 3)
    rw [World.size_alloc, World.size_alloc] at this
    exact this
  have hW0 := (H.out.moved hb1)
  have HW0 := Lib.hid hW0
  have hC0 : C6 pb w.heap.size (.slice oS S.length cS) (.slice oO O.length cO) v2 (.slice oL L.length cL) (.slice oF F.length cF) v5 (.slice o1 s.length q1) W.drew := ⟨hW0.blk, (part_cells e0).2.1⟩
  have HE := Lib.hid (And.intro e0 (And.intro e1 e2))
  have HB1 := Lib.hid hb1
  clear hW0 hW g0 g1 g2 g3 g4 g5 hb1 e0 e1 e2
  go_cut [] from 27 (fun wx => ∃ (T' : Nat → Prop) (x1 x2 x3 x4 : Value), RN w0 wx pb T' x1 x2 v2 x3 x4 v5 (ss ++ [.slice o1 s.length q1]) (fs ++ [.slice none 0 0]) (S ++ [s]) (O ++ [q]) (L ++ [false]) (F ++ [[]]) ∧ RTr T W T' wx ∧ ∀ j, T' j → j < W.heap.size → T j)
  case first =>
    obtain ⟨i1, hi1, hz10, hz11, hz12⟩ := infoRow
    obtain ⟨i2, hi2, hz20, hz21, hz22⟩ := infoInt1
    obtain ⟨i3, hi3, hz30, hz31, hz32⟩ := infoBool1
    obtain ⟨i4, hi4, hz40, hz41, hz42⟩ := infoInts
    have hsW0 : w0.heap.size ≤ W.heap.size := HW0.out.bel.size
    have HC : Hid (∀ b1 b2 b3 b4 c s1 a1 s2 a2 s3 a3 s4 a4 w', G6 w0 W pb T (.slice oS S.length cS) (.slice oO O.length cO) v2 (.slice oL L.length cL) (.slice oF F.length cF) v5 ss fs S O L F (.slice o1 s.length q1) q b1 b2 b3 b4 c s1 a1 s2 a2 s3 a3 s4 a4 w' → (C6 pb w.heap.size (.slice oS S.length cS) (.slice oO O.length cO) v2 (.slice oL L.length cL) (.slice oF F.length cF) v5 (.slice o1 s.length q1)) w') := Lib.hid (fun b1 b2 b3 b4 c s1 a1 s2 a2 s3 a3 s4 a4 w' hG => ⟨hG.blk, (part_cells (show w'.heap[w.heap.size]? = _ by rw [hG.ag.block _ (by omega) (fun hT => by have := (H.out.tlt _ hT).2; omega)]; exact HE.out.1)).2.1⟩)
    refine wp_region_till (t := 33) (C := (C6 pb w.heap.size (.slice oS S.length cS) (.slice oO O.length cO) v2 (.slice oL L.length cL) (.slice oF F.length cF) v5 (.slice o1 s.length q1))) (by kernel_rfl) ?_
    refine wpAnyT_takeW (i := 0) (v := ?_) rfl (by kernel_rfl) (by kernel_rfl) (by kernel_rfl) (fun _ _ _ h => h) (by decide) (Or.inl ⟨by rfl, ?_⟩) hC0 ?_
    rotate_left
    · intro w' _
      go_simp
      try with_reducible rfl
    try simp only [Act.put, A6, List.setIfInBounds_toArray, List.set_cons_zero, List.set_cons_succ, List.getElem_toArray, List.getElem_cons_succ, List.getElem_cons_zero]
    refine wpAnyT_takeW (i := 1) (v := ?_) rfl (by kernel_rfl) (by kernel_rfl) (by kernel_rfl) (fun _ _ _ h => h) (by decide) (Or.inl ⟨by rfl, ?_⟩) hC0 ?_
    rotate_left
    · intro w' _
      go_simp
      try with_reducible rfl
    try simp only [Act.put, A6, List.setIfInBounds_toArray, List.set_cons_zero, List.set_cons_succ, List.getElem_toArray, List.getElem_cons_succ, List.getElem_cons_zero]
    refine wpAnyT_takeW (i := 2) (v := ?_) rfl (by kernel_rfl) (by kernel_rfl) (by kernel_rfl) (fun _ _ _ h => h) (by decide) (Or.inl ⟨by rfl, ?_⟩) hC0 ?_
    rotate_left
    · intro w' _
      go_simp
      try with_reducible rfl
    try simp only [Act.put, A6, List.setIfInBounds_toArray, List.set_cons_zero, List.set_cons_succ, List.getElem_toArray, List.getElem_cons_succ, List.getElem_cons_zero]
    refine wpAnyT_takeW (i := 3) (v := ?_) rfl (by kernel_rfl) (by kernel_rfl) (by kernel_rfl) (fun _ _ _ h => h) (by decide) (Or.inl ⟨by rfl, ?_⟩) hC0 ?_
    rotate_left
    · intro w' _
      go_simp
      try with_reducible rfl
    try simp only [Act.put, A6, List.setIfInBounds_toArray, List.set_cons_zero, List.set_cons_succ, List.getElem_toArray, List.getElem_cons_succ, List.getElem_cons_zero]
    refine wpAnyT_takeW (i := 4) (v := ?_) rfl (by kernel_rfl) (by kernel_rfl) (by kernel_rfl) (fun _ _ _ h => h) (by decide) (Or.inl ⟨by rfl, ?_⟩) hC0 ?_
    rotate_left
    · intro w' _
      go_simp
      try with_reducible rfl
    try simp only [Act.put, A6, List.setIfInBounds_toArray, List.set_cons_zero, List.set_cons_succ, List.getElem_toArray, List.getElem_cons_succ, List.getElem_cons_zero]
    refine wpAnyT_takeW (i := 5) (v := ?_) rfl (by kernel_rfl) (by kernel_rfl) (by kernel_rfl) (fun _ _ _ h => h) (by decide) (Or.inl ⟨by rfl, ?_⟩) hC0 ?_
    rotate_left
    · intro w' _
      go_simp
      try with_reducible rfl
    try simp only [Act.put, A6, List.setIfInBounds_toArray, List.set_cons_zero, List.set_cons_succ, List.getElem_toArray, List.getElem_cons_succ, List.getElem_cons_zero]
    refine wpAnyT_takeW (i := 6) (v := ?_) rfl (by kernel_rfl) (by kernel_rfl) (by kernel_rfl) (fun _ _ _ h => h) (by decide) (Or.inl ⟨by rfl, ?_⟩) hC0 ?_
    rotate_left
    · intro w' _
      go_simp
      try with_reducible rfl
    try simp only [Act.put, A6, List.setIfInBounds_toArray, List.set_cons_zero, List.set_cons_succ, List.getElem_toArray, List.getElem_cons_succ, List.getElem_cons_zero]
    refine wpAnyT_take (i := 7) (v := ?_) rfl (by kernel_rfl) (by kernel_rfl) (by kernel_rfl) (fun _ _ _ h => h) (by kernel_rfl) (by kernel_rfl) (Or.inl ⟨by rfl, ?_⟩) hC0 ?_
    rotate_left
    · intro w' hSw
      obtain ⟨k0, k2⟩ := hSw
      obtain ⟨g0, g1, g2, g3, g4, g5⟩ := n_cells k0
      clear k0
      go_simp
      try with_reducible rfl
    try simp only [Act.put, A6, List.setIfInBounds_toArray, List.set_cons_zero, List.set_cons_succ, List.getElem_toArray, List.getElem_cons_succ, List.getElem_cons_zero]
    refine wpAnyT_takeW (i := 8) (v := ?_) rfl (by kernel_rfl) (by kernel_rfl) (by kernel_rfl) (fun _ _ _ h => h) (by decide) (Or.inl ⟨by rfl, ?_⟩) hC0 ?_
    rotate_left
    · intro w' _
      go_simp
      try with_reducible rfl
    try simp only [Act.put, A6, List.setIfInBounds_toArray, List.set_cons_zero, List.set_cons_succ, List.getElem_toArray, List.getElem_cons_succ, List.getElem_cons_zero]
    refine wpAnyT_take (i := 9) (v := ?_) rfl (by kernel_rfl) (by kernel_rfl) (by kernel_rfl) (fun _ _ _ h => h) (by kernel_rfl) (by kernel_rfl) (Or.inl ⟨by rfl, ?_⟩) hC0 ?_
    rotate_left
    · intro w' hSw
      obtain ⟨k0, k2⟩ := hSw
      obtain ⟨g0, g1, g2, g3, g4, g5⟩ := n_cells k0
      clear k0
      go_simp
      try with_reducible rfl
    try simp only [Act.put, A6, List.setIfInBounds_toArray, List.set_cons_zero, List.set_cons_succ, List.getElem_toArray, List.getElem_cons_succ, List.getElem_cons_zero]
    refine wpAnyT_takeW (i := 12) (v := ?_) rfl (by kernel_rfl) (by kernel_rfl) (by kernel_rfl) (fun _ _ _ h => h) (by decide) (Or.inl ⟨by rfl, ?_⟩) hC0 ?_
    rotate_left
    · intro w' _
      go_simp
      try with_reducible rfl
    try simp only [Act.put, A6, List.setIfInBounds_toArray, List.set_cons_zero, List.set_cons_succ, List.getElem_toArray, List.getElem_cons_succ, List.getElem_cons_zero]
    refine wpAnyT_takeW (i := 13) (v := ?_) rfl (by kernel_rfl) (by kernel_rfl) (by kernel_rfl) (fun _ _ _ h => h) (by decide) (Or.inl ⟨by rfl, ?_⟩) hC0 ?_
    rotate_left
    · intro w' _
      go_simp
      try with_reducible rfl
    try simp only [Act.put, A6, List.setIfInBounds_toArray, List.set_cons_zero, List.set_cons_succ, List.getElem_toArray, List.getElem_cons_succ, List.getElem_cons_zero]
    refine wpAnyT_takeW (i := 14) (v := ?_) rfl (by kernel_rfl) (by kernel_rfl) (by kernel_rfl) (fun _ _ _ h => h) (by decide) (Or.inl ⟨by rfl, ?_⟩) hC0 ?_
    rotate_left
    · intro w' _
      go_simp
      try with_reducible rfl
    try simp only [Act.put, A6, List.setIfInBounds_toArray, List.set_cons_zero, List.set_cons_succ, List.getElem_toArray, List.getElem_cons_succ, List.getElem_cons_zero]
    refine wpAnyT_take (i := 15) (v := ?_) rfl (by kernel_rfl) (by kernel_rfl) (by kernel_rfl) (fun _ _ _ h => h) (by kernel_rfl) (by kernel_rfl) (Or.inl ⟨by rfl, ?_⟩) hC0 ?_
    rotate_left
    · intro w' hSw
      obtain ⟨k0, k2⟩ := hSw
      obtain ⟨g0, g1, g2, g3, g4, g5⟩ := n_cells k0
      clear k0
      go_simp
      try with_reducible rfl
    try simp only [Act.put, A6, List.setIfInBounds_toArray, List.set_cons_zero, List.set_cons_succ, List.getElem_toArray, List.getElem_cons_succ, List.getElem_cons_zero]
    refine wpAnyT_takeW (i := 16) (v := ?_) rfl (by kernel_rfl) (by kernel_rfl) (by kernel_rfl) (fun _ _ _ h => h) (by decide) (Or.inl ⟨by rfl, ?_⟩) hC0 ?_
    rotate_left
    · intro w' _
      go_simp
      try with_reducible rfl
    try simp only [Act.put, A6, List.setIfInBounds_toArray, List.set_cons_zero, List.set_cons_succ, List.getElem_toArray, List.getElem_cons_succ, List.getElem_cons_zero]
    refine wpAnyT_takeW (i := 19) (v := ?_) rfl (by kernel_rfl) (by kernel_rfl) (by kernel_rfl) (fun _ _ _ h => h) (by decide) (Or.inl ⟨by rfl, ?_⟩) hC0 ?_
    rotate_left
    · intro w' _
      go_simp
      try with_reducible rfl
    try simp only [Act.put, A6, List.setIfInBounds_toArray, List.set_cons_zero, List.set_cons_succ, List.getElem_toArray, List.getElem_cons_succ, List.getElem_cons_zero]
    refine wpAnyT_takeW (i := 20) (v := ?_) rfl (by kernel_rfl) (by kernel_rfl) (by kernel_rfl) (fun _ _ _ h => h) (by decide) (Or.inl ⟨by rfl, ?_⟩) hC0 ?_
    rotate_left
    · intro w' _
      go_simp
      try with_reducible rfl
    try simp only [Act.put, A6, List.setIfInBounds_toArray, List.set_cons_zero, List.set_cons_succ, List.getElem_toArray, List.getElem_cons_succ, List.getElem_cons_zero]
    refine wpAnyT_takeW (i := 21) (v := ?_) rfl (by kernel_rfl) (by kernel_rfl) (by kernel_rfl) (fun _ _ _ h => h) (by decide) (Or.inl ⟨by rfl, ?_⟩) hC0 ?_
    rotate_left
    · intro w' _
      go_simp
      try with_reducible rfl
    try simp only [Act.put, A6, List.setIfInBounds_toArray, List.set_cons_zero, List.set_cons_succ, List.getElem_toArray, List.getElem_cons_succ, List.getElem_cons_zero]
    refine wpAnyT_take (i := 22) (v := ?_) rfl (by kernel_rfl) (by kernel_rfl) (by kernel_rfl) (fun _ _ _ h => h) (by kernel_rfl) (by kernel_rfl) (Or.inl ⟨by rfl, ?_⟩) hC0 ?_
    rotate_left
    · intro w' hSw
      obtain ⟨k0, k2⟩ := hSw
      obtain ⟨g0, g1, g2, g3, g4, g5⟩ := n_cells k0
      clear k0
      go_simp
      try with_reducible rfl
    try simp only [Act.put, A6, List.setIfInBounds_toArray, List.set_cons_zero, List.set_cons_succ, List.getElem_toArray, List.getElem_cons_succ, List.getElem_cons_zero]
    refine wpAnyT_takeW (i := 25) (v := ?_) rfl (by kernel_rfl) (by kernel_rfl) (by kernel_rfl) (fun _ _ _ h => h) (by decide) (Or.inl ⟨by rfl, ?_⟩) hC0 ?_
    rotate_left
    · intro w' _
      go_simp
      try with_reducible rfl
    try simp only [Act.put, A6, List.setIfInBounds_toArray, List.set_cons_zero, List.set_cons_succ, List.getElem_toArray, List.getElem_cons_succ, List.getElem_cons_zero]
    refine wpAnyT_takeW (i := 26) (v := ?_) rfl (by kernel_rfl) (by kernel_rfl) (by kernel_rfl) (fun _ _ _ h => h) (by decide) (Or.inl ⟨by rfl, ?_⟩) hC0 ?_
    rotate_left
    · intro w' _
      go_simp
      try with_reducible rfl
    try simp only [Act.put, A6, List.setIfInBounds_toArray, List.set_cons_zero, List.set_cons_succ, List.getElem_toArray, List.getElem_cons_succ, List.getElem_cons_zero]
    refine wpAnyT_takeW (i := 27) (v := ?_) rfl (by kernel_rfl) (by kernel_rfl) (by kernel_rfl) (fun _ _ _ h => h) (by decide) (Or.inl ⟨by rfl, ?_⟩) hC0 ?_
    rotate_left
    · intro w' _
      go_simp
      try with_reducible rfl
    try simp only [Act.put, A6, List.setIfInBounds_toArray, List.set_cons_zero, List.set_cons_succ, List.getElem_toArray, List.getElem_cons_succ, List.getElem_cons_zero]
    refine wpAnyT_take (i := 28) (v := ?_) rfl (by kernel_rfl) (by kernel_rfl) (by kernel_rfl) (fun _ _ _ h => h) (by kernel_rfl) (by kernel_rfl) (Or.inl ⟨by rfl, ?_⟩) hC0 ?_
    rotate_left
    · intro w' hSw
      obtain ⟨k0, k2⟩ := hSw
      obtain ⟨g0, g1, g2, g3, g4, g5⟩ := n_cells k0
      clear k0
      go_simp
      try with_reducible rfl
    try simp only [Act.put, A6, List.setIfInBounds_toArray, List.set_cons_zero, List.set_cons_succ, List.getElem_toArray, List.getElem_cons_succ, List.getElem_cons_zero]
    refine reg6 (pb := pb) (m := 12) (q := q) (sv := .slice o1 s.length q1) (by kernel_rfl) (by kernel_rfl) ?hb (G6.start HW0.out (Below.refl _ _).drew) ?hr ?h1 ?h2 ?h3 ?h4 ?k1 ?k2 ?k3 ?k4 ?hend
    case hb => simp only [A6, List.setIfInBounds_toArray, List.set_cons_zero, List.set_cons_succ]
    case hr =>
      rintro b1 b2 b3 b4 c ⟨hc, v1, v2', v3, v4⟩ h4
      obtain rfl | rfl | rfl | rfl : c = 0 ∨ c = 1 ∨ c = 2 ∨ c = 3 := by omega
      all_goals (cases b1 <;> cases b2 <;> cases b3 <;> cases b4 <;> (first | (exfalso; simp at v1 v2' v3 v4; done) | kernel_rfl))
    case h1 =>
      rintro b2 b3 b4 a wq ⟨s1, a1, s2, a2, s3, a3, s4, a4, rfl, hG⟩
      try simp only [Act.put, A6, List.setIfInBounds_toArray, List.set_cons_zero, List.set_cons_succ, List.getElem_toArray, List.getElem_cons_succ, List.getElem_cons_zero]
      refine wpOp_step rfl (fun K hK => ?_)
      replace hK := Lib.hid hK
      go_simp
      exact hK.out _ _ ⟨HC.out _ _ _ _ _ _ _ _ _ _ _ _ _ _ hG.new1, ⟨_, a1, s2, a2, s3, a3, s4, a4, by simp only [Act.put, A6, List.setIfInBounds_toArray, List.set_cons_zero, List.set_cons_succ, List.getElem_toArray, List.getElem_cons_succ, List.getElem_cons_zero], hG.new1⟩⟩
    case h2 =>
      rintro b1 b3 b4 c a wq hcl ⟨s1, a1, s2, a2, s3, a3, s4, a4, rfl, hG⟩
      try simp only [Act.put, A6, List.setIfInBounds_toArray, List.set_cons_zero, List.set_cons_succ, List.getElem_toArray, List.getElem_cons_succ, List.getElem_cons_zero]
      refine wpOp_step rfl (fun K hK => ?_)
      replace hK := Lib.hid hK
      go_simp
      exact hK.out _ _ ⟨HC.out _ _ _ _ _ _ _ _ _ _ _ _ _ _ hG.new2, ⟨s1, a1, _, a2, s3, a3, s4, a4, by simp only [Act.put, A6, List.setIfInBounds_toArray, List.set_cons_zero, List.set_cons_succ, List.getElem_toArray, List.getElem_cons_succ, List.getElem_cons_zero], hG.new2⟩⟩
    case h3 =>
      rintro b1 b2 b4 c a wq hcl ⟨s1, a1, s2, a2, s3, a3, s4, a4, rfl, hG⟩
      try simp only [Act.put, A6, List.setIfInBounds_toArray, List.set_cons_zero, List.set_cons_succ, List.getElem_toArray, List.getElem_cons_succ, List.getElem_cons_zero]
      refine wpOp_step rfl (fun K hK => ?_)
      replace hK := Lib.hid hK
      go_simp
      exact hK.out _ _ ⟨HC.out _ _ _ _ _ _ _ _ _ _ _ _ _ _ hG.new3, ⟨s1, a1, s2, a2, _, a3, s4, a4, by simp only [Act.put, A6, List.setIfInBounds_toArray, List.set_cons_zero, List.set_cons_succ, List.getElem_toArray, List.getElem_cons_succ, List.getElem_cons_zero], hG.new3⟩⟩
    case h4 =>
      rintro b1 b2 b3 c a wq hcl ⟨s1, a1, s2, a2, s3, a3, s4, a4, rfl, hG⟩
      try simp only [Act.put, A6, List.setIfInBounds_toArray, List.set_cons_zero, List.set_cons_succ, List.getElem_toArray, List.getElem_cons_succ, List.getElem_cons_zero]
      refine wpOp_step rfl (fun K hK => ?_)
      replace hK := Lib.hid hK
      go_simp
      exact hK.out _ _ ⟨HC.out _ _ _ _ _ _ _ _ _ _ _ _ _ _ hG.new4, ⟨s1, a1, s2, a2, s3, a3, _, a4, by simp only [Act.put, A6, List.setIfInBounds_toArray, List.set_cons_zero, List.set_cons_succ, List.getElem_toArray, List.getElem_cons_succ, List.getElem_cons_zero], hG.new4⟩⟩
    case k1 =>
      rintro b2 b3 b4 a wq ⟨s1, a1, s2, a2, s3, a3, s4, a4, rfl, hG⟩
      have ho := hG.ch1.c0 rfl
      obtain ⟨qb, rfl, hrow⟩ := hG.ch1.row
      have hsz : w0.heap.size ≤ wq.heap.size := Nat.le_trans hsW0 hG.ag.size
      try simp only [Act.put, A6, List.setIfInBounds_toArray, List.set_cons_zero, List.set_cons_succ, List.getElem_toArray, List.getElem_cons_succ, List.getElem_cons_zero]
      refine wpOp_step rfl (fun K hK => ?_)
      replace hK := Lib.hid hK
      obtain ⟨hlO, hlL, hlF⟩ := HLE.out
      refine step_append_far _ (by rfl) _ _ 46 (by rfl) w0.heap.size 39 i1 _ 1 24 Tryz.underlying46 hi1 hz10 hz11 hz12 rfl (by decide) (.slice oS S.length cS) S.length ss (by rfl) ho _ 1 [(.slice o1 s.length q1)] (by rfl) hrow (by rfl) (by simp [Value.oneCell']) (by unfold maxLen; omega) (by omega) hsz ?_
      intro v6 w6 hown6 hg6 hp6 hb6
      have hG2 := hG.app1 hown6 hg6 hp6
      exact hK.out _ _ ⟨HC.out _ _ _ _ _ _ _ _ _ _ _ _ _ _ hG2, ⟨_, _, s2, a2, s3, a3, s4, a4, by simp only [Act.put, A6, List.setIfInBounds_toArray, List.set_cons_zero, List.set_cons_succ, List.getElem_toArray, List.getElem_cons_succ, List.getElem_cons_zero], hG2⟩⟩
    case k2 =>
      rintro b3 b4 a wq ⟨s1, a1, s2, a2, s3, a3, s4, a4, rfl, hG⟩
      have ho := hG.ch2.c0 rfl
      obtain ⟨qb, rfl, hrow⟩ := hG.ch2.row
      have hsz : w0.heap.size ≤ wq.heap.size := Nat.le_trans hsW0 hG.ag.size
      try simp only [Act.put, A6, List.setIfInBounds_toArray, List.set_cons_zero, List.set_cons_succ, List.getElem_toArray, List.getElem_cons_succ, List.getElem_cons_zero]
      refine wpOp_step rfl (fun K hK => ?_)
      replace hK := Lib.hid hK
      obtain ⟨hlO, hlL, hlF⟩ := HLE.out
      refine step_append_far _ (by rfl) _ _ 23 (by rfl) w0.heap.size 3 i2 _ 1 8 Tryz.underlying23 hi2 hz20 hz21 hz22 rfl (by decide) (.slice oO O.length cO) O.length (ints1 O) (by rfl) ho _ 1 [(.int .i64 q)] (by rfl) hrow (by rfl) (by simp [Value.oneCell']) (by unfold maxLen; omega) (by omega) hsz ?_
      intro v6 w6 hown6 hg6 hp6 hb6
      have hG2 := hG.app2 hown6 hg6 hp6
      exact hK.out _ _ ⟨HC.out _ _ _ _ _ _ _ _ _ _ _ _ _ _ hG2, ⟨s1, a1, _, _, s3, a3, s4, a4, by simp only [Act.put, A6, List.setIfInBounds_toArray, List.set_cons_zero, List.set_cons_succ, List.getElem_toArray, List.getElem_cons_succ, List.getElem_cons_zero], hG2⟩⟩
    case k3 =>
      rintro b4 a wq ⟨s1, a1, s2, a2, s3, a3, s4, a4, rfl, hG⟩
      have ho := hG.ch3.c0 rfl
      obtain ⟨qb, rfl, hrow⟩ := hG.ch3.row
      have hsz : w0.heap.size ≤ wq.heap.size := Nat.le_trans hsW0 hG.ag.size
      try simp only [Act.put, A6, List.setIfInBounds_toArray, List.set_cons_zero, List.set_cons_succ, List.getElem_toArray, List.getElem_cons_succ, List.getElem_cons_zero]
      refine wpOp_step rfl (fun K hK => ?_)
      replace hK := Lib.hid hK
      obtain ⟨hlO, hlL, hlF⟩ := HLE.out
      refine step_append_far _ (by rfl) _ _ 47 (by rfl) w0.heap.size 4 i3 _ 1 1 Tryz.underlying47 hi3 hz30 hz31 hz32 rfl (by decide) (.slice oL L.length cL) L.length (L.map Value.bool) (by rfl) ho _ 1 [(.bool false)] (by rfl) hrow (by rfl) (by simp [Value.oneCell']) (by unfold maxLen; omega) (by omega) hsz ?_
      intro v6 w6 hown6 hg6 hp6 hb6
      have hG2 := hG.app3 hown6 hg6 hp6
      exact hK.out _ _ ⟨HC.out _ _ _ _ _ _ _ _ _ _ _ _ _ _ hG2, ⟨s1, a1, s2, a2, _, _, s4, a4, by simp only [Act.put, A6, List.setIfInBounds_toArray, List.set_cons_zero, List.set_cons_succ, List.getElem_toArray, List.getElem_cons_succ, List.getElem_cons_zero], hG2⟩⟩
    case k4 =>
      rintro a wq ⟨s1, a1, s2, a2, s3, a3, s4, a4, rfl, hG⟩
      have ho := hG.ch4.c0 rfl
      obtain ⟨qb, rfl, hrow⟩ := hG.ch4.row
      have hsz : w0.heap.size ≤ wq.heap.size := Nat.le_trans hsW0 hG.ag.size
      try simp only [Act.put, A6, List.setIfInBounds_toArray, List.set_cons_zero, List.set_cons_succ, List.getElem_toArray, List.getElem_cons_succ, List.getElem_cons_zero]
      refine wpOp_step rfl (fun K hK => ?_)
      replace hK := Lib.hid hK
      obtain ⟨hlO, hlL, hlF⟩ := HLE.out
      refine step_append_far _ (by rfl) _ _ 22 (by rfl) w0.heap.size 23 i4 _ 1 24 Tryz.underlying22 hi4 hz40 hz41 hz42 rfl (by decide) (.slice oF F.length cF) F.length fs (by rfl) ho _ 1 [(.slice none 0 0)] (by rfl) hrow (by rfl) (by simp [Value.oneCell']) (by unfold maxLen; omega) (by omega) hsz ?_
      intro v6 w6 hown6 hg6 hp6 hb6
      have hG2 := hG.app4 hown6 hg6 hp6
      exact hK.out _ _ ⟨HC.out _ _ _ _ _ _ _ _ _ _ _ _ _ _ hG2, ⟨s1, a1, s2, a2, s3, a3, _, _, by simp only [Act.put, A6, List.setIfInBounds_toArray, List.set_cons_zero, List.set_cons_succ, List.getElem_toArray, List.getElem_cons_succ, List.getElem_cons_zero], hG2⟩⟩
    case hend =>
      rintro a wq ⟨s1, a1, s2, a2, s3, a3, s4, a4, rfl, hG⟩
      obtain ⟨y1, z1', e1⟩ := nf_slice (hG.ch1.c2 rfl).1
      obtain ⟨y2, z2', e2⟩ := nf_slice (hG.ch2.c2 rfl).1
      obtain ⟨y3, z3', e3⟩ := nf_slice (hG.ch3.c2 rfl).1
      obtain ⟨y4, z4', e4⟩ := nf_slice (hG.ch4.c2 rfl).1
      subst e1 e2 e3 e4
      have hC1 := HC.out _ _ _ _ _ _ _ _ _ _ _ _ _ _ hG
      have HG := Lib.hid hG
      have hblk := hG.blk
      clear hG
      try simp only [Act.put, A6, List.setIfInBounds_toArray, List.set_cons_zero, List.set_cons_succ, List.getElem_toArray, List.getElem_cons_succ, List.getElem_cons_zero]
      obtain ⟨g0, g1, g2, g3, g4, g5⟩ := n_cells hblk
      obtain ⟨z0, z1, z2, z3, z4, z5⟩ := n_froz hblk
      refine wpAnyT_all (rs := [31]) (by kernel_rfl) (by simp) (fun i hi => ?_)
      obtain rfl := List.mem_singleton.1 hi
      refine wpOp_step rfl (fun K hK => ?_)
      replace hK := Lib.hid hK
      go_simp
      refine hK.out _ _ ⟨fun _ => hC1, ?_⟩
      clear hK K hi
      try simp only [Act.put, A6, List.setIfInBounds_toArray, List.set_cons_zero, List.set_cons_succ, List.getElem_toArray, List.getElem_cons_succ, List.getElem_cons_zero]
      refine wpAnyT_all (rs := [32]) (by kernel_rfl) (by simp) (fun i hi => ?_)
      obtain rfl := List.mem_singleton.1 hi
      refine wpOp_step rfl (fun K hK => ?_)
      replace hK := Lib.hid hK
      go_simp
      refine hK.out _ _ ⟨fun _ => hC1, ?_⟩
      clear hK K hi
      try simp only [Act.put, A6, List.setIfInBounds_toArray, List.set_cons_zero, List.set_cons_succ, List.getElem_toArray, List.getElem_cons_succ, List.getElem_cons_zero]
      refine wpAnyT_all (rs := [33]) (by kernel_rfl) (by simp) (fun i hi => ?_)
      obtain rfl := List.mem_singleton.1 hi
      refine wpOp_step rfl (fun K hK => ?_)
      replace hK := Lib.hid hK
      go_simp
      refine hK.out _ _ ⟨fun h => absurd h (by decide), wpAnyT_of _ _ _ _ (by kernel_rfl) ?_⟩
      clear hK K hi
      try simp only [Act.put, A6, List.setIfInBounds_toArray, List.set_cons_zero, List.set_cons_succ, List.getElem_toArray, List.getElem_cons_succ, List.getElem_cons_zero]
      obtain ⟨w1, hw1⟩ : ∃ w1, w1 = wq.setCell ⟨pb, 0, none⟩ (.slice y1 (S.length + 1) z1') := ⟨_, rfl⟩
      rw [← hw1]
      have n1 : w1.heap[pb]? = some (.cells #[.slice y1 (S.length + 1) z1', .slice oO O.length cO, v2, .slice oL L.length cL, .slice oF F.length cF, v5] 49 (0, 0)) := by rw [hw1]; simp [World.setCell, Array.getElem?_modify, hblk]
      clear g0 g1 g2 g3 g4 g5 z0 z1 z2 z3 z4 z5
      obtain ⟨g0, g1, g2, g3, g4, g5⟩ := n_cells n1
      obtain ⟨z0, z1, z2, z3, z4, z5⟩ := n_froz n1
      have HW1 := Lib.hid hw1
      clear hw1
      refine wpAny_ready (rs := [34]) (by kernel_rfl) (by simp) ?_
      refine AllReady.cons rfl (fun K hK => ?_) AllReady.nil
      replace hK := Lib.hid hK
      go_simp
      refine hK.out _ _ ?_
      clear hK K
      try simp only [Act.put, A6, List.setIfInBounds_toArray, List.set_cons_zero, List.set_cons_succ, List.getElem_toArray, List.getElem_cons_succ, List.getElem_cons_zero]
      refine wpAny_ready (rs := [35]) (by kernel_rfl) (by simp) ?_
      refine AllReady.cons rfl (fun K hK => ?_) AllReady.nil
      replace hK := Lib.hid hK
      go_simp
      refine hK.out _ _ ?_
      clear hK K
      try simp only [Act.put, A6, List.setIfInBounds_toArray, List.set_cons_zero, List.set_cons_succ, List.getElem_toArray, List.getElem_cons_succ, List.getElem_cons_zero]
      refine wpAny_ready (rs := [36]) (by kernel_rfl) (by simp) ?_
      refine AllReady.cons rfl (fun K hK => ?_) AllReady.nil
      replace hK := Lib.hid hK
      go_simp
      refine hK.out _ _ ?_
      clear hK K
      try simp only [Act.put, A6, List.setIfInBounds_toArray, List.set_cons_zero, List.set_cons_succ, List.getElem_toArray, List.getElem_cons_succ, List.getElem_cons_zero]
      obtain ⟨w2, hw2⟩ : ∃ w2, w2 = w1.setCell ⟨pb, 1, none⟩ (.slice y2 (O.length + 1) z2') := ⟨_, rfl⟩
      rw [← hw2]
      have n2 : w2.heap[pb]? = some (.cells #[.slice y1 (S.length + 1) z1', .slice y2 (O.length + 1) z2', v2, .slice oL L.length cL, .slice oF F.length cF, v5] 49 (0, 0)) := by rw [hw2]; simp [World.setCell, Array.getElem?_modify, n1]
      clear g0 g1 g2 g3 g4 g5 z0 z1 z2 z3 z4 z5
      obtain ⟨g0, g1, g2, g3, g4, g5⟩ := n_cells n2
      obtain ⟨z0, z1, z2, z3, z4, z5⟩ := n_froz n2
      have HW2 := Lib.hid hw2
      clear hw2
      refine wpAny_ready (rs := [37]) (by kernel_rfl) (by simp) ?_
      refine AllReady.cons rfl (fun K hK => ?_) AllReady.nil
      replace hK := Lib.hid hK
      go_simp
      refine hK.out _ _ ?_
      clear hK K
      try simp only [Act.put, A6, List.setIfInBounds_toArray, List.set_cons_zero, List.set_cons_succ, List.getElem_toArray, List.getElem_cons_succ, List.getElem_cons_zero]
      refine wpAny_ready (rs := [38]) (by kernel_rfl) (by simp) ?_
      refine AllReady.cons rfl (fun K hK => ?_) AllReady.nil
      replace hK := Lib.hid hK
      go_simp
      refine hK.out _ _ ?_
      clear hK K
      try simp only [Act.put, A6, List.setIfInBounds_toArray, List.set_cons_zero, List.set_cons_succ, List.getElem_toArray, List.getElem_cons_succ, List.getElem_cons_zero]
      refine wpAny_ready (rs := [39]) (by kernel_rfl) (by simp) ?_
      refine AllReady.cons rfl (fun K hK => ?_) AllReady.nil
      replace hK := Lib.hid hK
      go_simp
      refine hK.out _ _ ?_
      clear hK K
      try simp only [Act.put, A6, List.setIfInBounds_toArray, List.set_cons_zero, List.set_cons_succ, List.getElem_toArray, List.getElem_cons_succ, List.getElem_cons_zero]
      obtain ⟨w3, hw3⟩ : ∃ w3, w3 = w2.setCell ⟨pb, 3, none⟩ (.slice y3 (L.length + 1) z3') := ⟨_, rfl⟩
      rw [← hw3]
      have n3 : w3.heap[pb]? = some (.cells #[.slice y1 (S.length + 1) z1', .slice y2 (O.length + 1) z2', v2, .slice y3 (L.length + 1) z3', .slice oF F.length cF, v5] 49 (0, 0)) := by rw [hw3]; simp [World.setCell, Array.getElem?_modify, n2]
      clear g0 g1 g2 g3 g4 g5 z0 z1 z2 z3 z4 z5
      obtain ⟨g0, g1, g2, g3, g4, g5⟩ := n_cells n3
      obtain ⟨z0, z1, z2, z3, z4, z5⟩ := n_froz n3
      have HW3 := Lib.hid hw3
      clear hw3
      refine wpAny_ready (rs := [40]) (by kernel_rfl) (by simp) ?_
      refine AllReady.cons rfl (fun K hK => ?_) AllReady.nil
      replace hK := Lib.hid hK
      go_simp
      refine hK.out _ _ ?_
      clear hK K
      try simp only [Act.put, A6, List.setIfInBounds_toArray, List.set_cons_zero, List.set_cons_succ, List.getElem_toArray, List.getElem_cons_succ, List.getElem_cons_zero]
      refine wpAny_ready (rs := [41]) (by kernel_rfl) (by simp) ?_
      refine AllReady.cons rfl (fun K hK => ?_) AllReady.nil
      replace hK := Lib.hid hK
      go_simp
      refine hK.out _ _ ?_
      clear hK K
      try simp only [Act.put, A6, List.setIfInBounds_toArray, List.set_cons_zero, List.set_cons_succ, List.getElem_toArray, List.getElem_cons_succ, List.getElem_cons_zero]
      refine wpAny_ready (rs := [42]) (by kernel_rfl) (by simp) ?_
      refine AllReady.cons rfl (fun K hK => ?_) AllReady.nil
      replace hK := Lib.hid hK
      go_simp
      refine hK.out _ _ ?_
      clear hK K
      try simp only [Act.put, A6, List.setIfInBounds_toArray, List.set_cons_zero, List.set_cons_succ, List.getElem_toArray, List.getElem_cons_succ, List.getElem_cons_zero]
      refine wpAny_done (by kernel_rfl) ?_ _
      go_wp2_with fail
      go_meet
      obtain ⟨T', hd1, hd2, hd3⟩ := HG.out.done (w' := w3.setCell ⟨pb, 4, none⟩ (.slice y4 (F.length + 1) z4')) HSV.out (by rw [HW3.out, HW2.out, HW1.out])
      exact ⟨T', _, _, _, _, hd1, hd2, hd3⟩
  case rest =>
    obtain ⟨T', x1, x2, x3, x4, hrn, htr, hTo⟩ := hcut
    have hn7 : ¬ T' (w.heap.size + 2) := fun hT => by have := (H.out.tlt _ (hTo _ hT (by omega))).2; omega
    have hn6 : ¬ T' (w.heap.size + 1) := fun hT => by have := (H.out.tlt _ (hTo _ hT (by omega))).2; omega
    have hm7 : ¬ T (w.heap.size + 2) := fun hT => by have := (H.out.tlt _ hT).2; omega
    have hm6 : ¬ T (w.heap.size + 1) := fun hT => by have := (H.out.tlt _ hT).2; omega
    have h7 := htr.get hm7 HE.out.2.2
    have h6 := htr.get hm6 HE.out.2.1
    have hbs := H.out.bel.size
    have HF := Lib.hid (And.intro hrn (And.intro htr (And.intro h7 (And.intro h6 hn7))))
    obtain ⟨d0, d1, d2⟩ := part_cells h6
    obtain ⟨z0, z1, z2⟩ := part_froz h6
    clear hrn htr h7 h6
    go_wp2_with fail
    have hfin := set3_at HF.out.2.2.2.1 (.bool false) (.slice (some ⟨w.heap.size + 2, 0, none⟩) 1 1) (.slice (some ⟨w.heap.size + 2, 0, none⟩) 1 1)
    obtain ⟨f0, f1, f2⟩ := part_cells hfin
    simp [bodyPost, results, Tryz.results45, go_sem, f0, f1, f2]
    obtain ⟨hrn, htr, h7, h6, hn7⟩ := HF.out
    have hown : wc.ownsRow w0.heap.size 3 1 (.slice (some ⟨w.heap.size + 2, 0, none⟩) 1 1) 1 (ints1 [(S.length : Int)]) :=
      ⟨rfl, .inr ⟨w.heap.size + 2, _, _, rfl, by omega, h7, Nat.le_refl _, by simp [maxLen], rfl, rfl⟩⟩
    have hpr : PRd wc w0.heap.size T' (.slice (some ⟨w.heap.size + 2, 0, none⟩) 1 1) [(S.length : Int)] := ⟨hown, fun j hj => by
      have : w.heap.size + 2 = j := by simpa [Value.ownBlock] using hj
      subst this; exact hn7⟩
    have g7 := pset0 h6 (.bool false)
    have g8 := pset1 g7 (.slice (some ⟨w.heap.size + 2, 0, none⟩) 1 1)
    have hlo : w0.heap.size ≤ w.heap.size + 1 := by omega
    have hT : w.heap.size ≤ w.heap.size + 1 := by omega
    have e1 : Nf.sts (.mk 2 s []) = [s] := by simp [Nf.sts_mk, Nf.stsL_nil]
    have e2 : Nf.nd (.mk 2 s []) F = ((false, [(S.length : Int)], [(S.length : Int)]), F ++ [[]]) := by rw [Nf.nd_nil]; simp [HLE.out.2.2]
    have hpx := ((hpr.set (p := ⟨w.heap.size + 1, 0, none⟩) h6 (by decide) (.bool false)).set (p := ⟨w.heap.size + 1, 1, none⟩) g7 (by decide) (.slice (some ⟨w.heap.size + 2, 0, none⟩) 1 1)).set (p := ⟨w.heap.size + 1, 2, none⟩) g8 (by decide) (.slice (some ⟨w.heap.size + 2, 0, none⟩) 1 1)
    refine ⟨_, _, ⟨rfl, rfl⟩, T', x1, x2, x3, x4, ss ++ [.slice o1 s.length q1], fs ++ [.slice none 0 0], ?_, ?_, by rw [e2]; exact hpx, by rw [e2]; exact hpx⟩
    · rw [e1, e2]
      exact (((hrn.set (p := ⟨w.heap.size + 1, 0, none⟩) h6 (by decide) (by decide) (by decide) (by decide) (by decide) hlo _).set (p := ⟨w.heap.size + 1, 1, none⟩) g7 (by decide) (by decide) (by decide) (by decide) (by decide) hlo _).set (p := ⟨w.heap.size + 1, 2, none⟩) g8 (by decide) (by decide) (by decide) (by decide) (by decide) hlo _)
    · exact ((((RTr.old HB1.out).trans htr).set hT _).set hT _).set hT _
end Go.Proofs.YtmgfpcblbbpahaaGreat
