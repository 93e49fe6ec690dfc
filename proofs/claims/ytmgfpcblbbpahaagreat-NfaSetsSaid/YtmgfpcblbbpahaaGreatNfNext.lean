/- A machine in memory; nfa.Next, Rules, Len. -/
import Derived.Test.YtmgfpcblbbpahaaGreatNfGat
import Derived.Test.YtmgfpcblbbpahaaGreatNfDel
import Derived.Test.YtmgfpcblbbpahaaGreatRnCuts
set_option linter.unusedVariables false
set_option linter.unusedSimpArgs false
namespace Go.Proofs.YtmgfpcblbbpahaaGreat
open Go.RowKit Ru Rn Rn.Ru

/-- rows of ints -/
def RowsN (w : World) (v : Value) (vs : List Value) (F : List (List Int)) : Prop :=
  vs.length = F.length ∧ Row w v F.length vs ∧ ∀ i, i < F.length → Row w (vs.getD i undef) (F.getD i []).length (ints1 (F.getD i []))
theorem RowsN.moved {w w' : World} {v : Value} {vs : List Value} {F : List (List Int)} (h : RowsN w v vs F) (hb : Below w.heap.size w w') : RowsN w' v vs F := ⟨h.1, h.2.1.below hb, fun i hi => (h.2.2 i hi).below hb⟩
theorem rowsR_moved {w w' : World} {v : Value} {vs : List Value} {F : List (List Pc)} (h : RowsR w v vs F) (hb : Below w.heap.size w w') : RowsR w' v vs F := ⟨h.1, h.2.1.below hb, fun i hi => (h.2.2 i hi).below hb⟩
/-- a row's place -/
theorem row_at {w : World} {o : Option Addr} {n c : Nat} {cs : List Value} (h : Row w (.slice o n c) n cs) {i : Nat} {u : Value} (hu : cs[i]? = some u) (hi : i < n) : ∃ b off, o = some ⟨b, off, none⟩ ∧ b < w.heap.size ∧ w.cell? ⟨b, off + i, none⟩ = some u := by
  obtain ⟨o', c', e, h1, h2, h3⟩ := h
  simp only [Value.slice.injEq, true_and] at e
  obtain ⟨rfl, rfl⟩ := e
  rcases h3 with ⟨h0, _⟩ | ⟨b, off, rfl, hb, hcs⟩
  · omega
  · exact ⟨b, off, rfl, hb, hcs i u hu⟩
theorem getD_get {vs : List Value} {i : Nat} (h : i < vs.length) : vs[i]? = some (vs.getD i undef) := by rw [List.getElem?_eq_getElem h]; simp [List.getD, h]

/-- a machine in memory: sets, followers, ends, cells -/
structure NIs (w : World) (pb : Nat) (S : List (List Pc)) (F E : List (List Int)) (C : List Pc) (so fo eo co : Option Addr) (sc fc ec cc : Nat) (ss fs es : List Value) : Prop where
  lt : pb < w.heap.size
  c0 : w.cell? ⟨pb, 0, none⟩ = some (.slice so S.length sc)
  c1 : w.cell? ⟨pb, 1, none⟩ = some (.slice fo F.length fc)
  c2 : w.cell? ⟨pb, 2, none⟩ = some (.slice eo E.length ec)
  c3 : w.cell? ⟨pb, 3, none⟩ = some (.slice co C.length cc)
  sets : RowsR w (.slice so S.length sc) ss S
  fol : RowsN w (.slice fo F.length fc) fs F
  ends : RowsN w (.slice eo E.length ec) es E
  cells : Row w (.slice co C.length cc) C.length (flatK .i32 C)
  lenF : F.length = S.length
  lenE : E.length = S.length
  few : S.length ≤ 1000
  short : (∀ s ∈ S, s.length ≤ 1000) ∧ (∀ r ∈ F, r.length ≤ 1000) ∧ (∀ r ∈ E, r.length ≤ 1000)
  fit : ∀ r ∈ F, ∀ x ∈ r, 0 ≤ x ∧ x < (S.length : Int)
section
variable {w w' : World} {pb : Nat} {S : List (List Pc)} {F E : List (List Int)} {C : List Pc} {so fo eo co : Option Addr} {sc fc ec cc : Nat} {ss fs es : List Value}
theorem NIs.moved (h : NIs w pb S F E C so fo eo co sc fc ec cc ss fs es) (hb : Below w.heap.size w w') : NIs w' pb S F E C so fo eo co sc fc ec cc ss fs es :=
  ⟨Nat.lt_of_lt_of_le h.lt hb.size, (hb.cell (p := ⟨pb, 0, none⟩) h.lt).trans h.c0, (hb.cell (p := ⟨pb, 1, none⟩) h.lt).trans h.c1, (hb.cell (p := ⟨pb, 2, none⟩) h.lt).trans h.c2, (hb.cell (p := ⟨pb, 3, none⟩) h.lt).trans h.c3,
   rowsR_moved h.sets hb, h.fol.moved hb, h.ends.moved hb, h.cells.below hb, h.lenF, h.lenE, h.few, h.short, h.fit⟩

theorem next1_any (h : NIs w pb S F E C so fo eo co sc fc ec cc ss fs es) (bx s : Nat) (hbx : w.cell? ⟨bx, 0, none⟩ = some (.pointer (some ⟨pb, 0, none⟩))) (hs : s < F.length) :
    Calls Tryz.prog 36 #[.int .i64 s, .pointer (some ⟨bx, 0, none⟩)] w fun e w' => e = .returned (fs.getD s undef) ∧ w' = w := by
  obtain ⟨b, off, rfl, hb, hc⟩ := row_at h.fol.2.1 (getD_get (by rw [h.fol.1]; exact hs)) hs
  have hc1 := h.c1
  generalize fs.getD s undef = u at hc ⊢
  clear h
  go_enter Tryz.func36, Tryz.ntmps36
  go_wp2_with fail
  go_ret
  exact ⟨rfl, rfl⟩

theorem rules1_any (h : NIs w pb S F E C so fo eo co sc fc ec cc ss fs es) (bx s : Nat) (hbx : w.cell? ⟨bx, 0, none⟩ = some (.pointer (some ⟨pb, 0, none⟩))) (hs : s < E.length) :
    Calls Tryz.prog 40 #[.int .i64 s, .pointer (some ⟨bx, 0, none⟩)] w fun e w' => e = .returned (es.getD s undef) ∧ w' = w := by
  obtain ⟨b, off, rfl, hb, hc⟩ := row_at h.ends.2.1 (getD_get (by rw [h.ends.1]; exact hs)) hs
  have hc1 := h.c2
  generalize es.getD s undef = u at hc ⊢
  clear h
  go_enter Tryz.func40, Tryz.ntmps40
  go_wp2_with fail
  go_ret
  exact ⟨rfl, rfl⟩

theorem next2_any (h : NIs w pb S F E C so fo eo co sc fc ec cc ss fs es) (bx br : Nat) (r : Int) (s : Nat) (hbl : bx < w.heap.size ∧ br < w.heap.size) (hbx : w.cell? ⟨bx, 0, none⟩ = some (.pointer (some ⟨pb, 0, none⟩))) (hbr : w.cell? ⟨br, 0, none⟩ = some (.int .i32 r)) (hs : s < S.length) :
    Calls Tryz.prog 38 #[.int .i64 s, .pointer (some ⟨bx, 0, none⟩), .pointer (some ⟨br, 0, none⟩)] w fun e w' => e = .returned (.bool (!has (S.getD s []) r)) ∧ Below w.heap.size w w' := by
  obtain ⟨b, off, rfl, hb, hc⟩ := row_at h.sets.2.1 (getD_get (by rw [h.sets.1]; exact hs)) hs
  have hc1 := h.c0
  have hrow := h.sets.2.2 s hs
  have hlen : (S.getD s []).length ≤ 1000 := by
    rw [List.getD_eq_getElem?_getD, List.getElem?_eq_getElem hs]; exact h.short.1 _ (List.getElem_mem hs)
  have hpl := h.lt
  generalize S.getD s [] = X at hrow hlen ⊢
  generalize ss.getD s undef = u at hc hrow ⊢
  have hcall := fun (W : World) (hW : Below w.heap.size w W) => has_any X r u W (hrow.below hW) (by omega)
  have HC := Lib.hid hcall
  have HS : Hid (∀ W : World, Below w.heap.size w W → W.cell? ⟨bx, 0, none⟩ = some (.pointer (some ⟨pb, 0, none⟩)) ∧ W.cell? ⟨pb, 0, none⟩ = some (.slice (some ⟨b, off, none⟩) S.length sc) ∧ W.cell? ⟨b, off + s, none⟩ = some u ∧ W.cell? ⟨br, 0, none⟩ = some (.int .i32 r)) :=
    Lib.hid fun W hW => ⟨(hW.cell (p := ⟨bx, 0, none⟩) hbl.1).trans hbx, (hW.cell (p := ⟨pb, 0, none⟩) hpl).trans hc1, (hW.cell (p := ⟨b, off + s, none⟩) hb).trans hc, (hW.cell (p := ⟨br, 0, none⟩) hbl.2).trans hbr⟩
  clear h hrow hcall
  go_enter Tryz.func38, Tryz.ntmps38
  go_wp2_with fail
  go_region_held3 (fun w' => w'.cell? ⟨bx, 0, none⟩ = some (.pointer (some ⟨pb, 0, none⟩)) ∧ w'.cell? ⟨pb, 0, none⟩ = some (.slice (some ⟨b, off, none⟩) S.length sc) ∧ w'.cell? ⟨b, off + s, none⟩ = some u ∧ w'.cell? ⟨br, 0, none⟩ = some (.int .i32 r))
    (exact HS.out _ (by repeat (first | exact Below.refl _ _ | assumption | (refine Below.drew ?_) | (refine bel_then ?_ (by assumption)))))
    (first
     | (go_at_call 39; refine (HC.out _ (by repeat (first | exact Below.refl _ _ | assumption | (refine Below.drew ?_)))).mono ?_; rintro e w2 ⟨rfl, hb2⟩))
  all_goals (go_wp2_with (fail))
  all_goals go_ret
  all_goals exact ⟨rfl, bel_then (below_drewN (Below.refl _ _) _) (by assumption)⟩
end
/-- what stands behind a set and a rune -/
def nextL (S : List (List Pc)) (F : List (List Int)) (l : List Int) (r : Int) : List Int := (Nf.gat F l).filter fun x => !(!has (S.getD x.toNat []) r)
section
variable {w w' : World} {pb : Nat} {S : List (List Pc)} {F E : List (List Int)} {C : List Pc} {so fo eo co : Option Addr} {sc fc ec cc : Nat} {ss fs es : List Value}

theorem gat_fit (F : List (List Int)) (l : List Int) (n : Nat) (h : ∀ r ∈ F, ∀ x ∈ r, 0 ≤ x ∧ x < (n : Int)) : ∀ x ∈ Nf.gat F l, 0 ≤ x ∧ x < (n : Int) := by
  intro x hx
  obtain ⟨s, _, h0, h1, h2⟩ := (Nf.mem_gat F l x).1 hx
  rw [List.getD_eq_getElem?_getD] at h2
  cases e : F[s.toNat]? with
  | none => rw [e] at h2; simp at h2
  | some r => rw [e] at h2; exact h r (List.mem_of_getElem? e) x h2
theorem asc_len {l : List Int} (hs : l.Pairwise (· < ·)) (n : Nat) (h : ∀ x ∈ l, 0 ≤ x ∧ x < (n : Int)) : l.length ≤ n := by
  have hk : ∀ (l : List Int) (a : Int), l.Pairwise (· < ·) → (∀ x ∈ l, a ≤ x ∧ x < (n : Int)) → a ≤ (n : Int) → (l.length : Int) ≤ (n : Int) - a := by
    intro l
    induction l with
    | nil => intro a _ _ ha; simp; omega
    | cons y l ih =>
      intro a hp hx ha
      rw [List.pairwise_cons] at hp
      have hy := hx y (by simp)
      have := ih (y + 1) hp.2 (fun x hxl => ⟨by have := hp.1 x hxl; omega, (hx x (by simp [hxl])).2⟩) (by omega)
      simp only [List.length_cons, Int.natCast_add, Int.cast_ofNat_Int]
      omega
  have := hk l 0 hs h (by omega)
  omega

set_option maxRecDepth 100000 in
set_option maxHeartbeats 2000000 in
theorem next_any (h : NIs w pb S F E C so fo eo co sc fc ec cc ss fs es) (l : List Int) (o : Option Addr) (c : Nat) (hl : Row w (.slice o l.length c) l.length (ints1 l)) (hll : l.length ≤ 4000) (r : Int) :
    Calls Tryz.prog 11 #[.pointer (some ⟨pb, 0, none⟩), .slice o l.length c, .int .i32 r] w fun e w' =>
      ∃ u, e = .returned u ∧ w'.ownsRow w.heap.size 3 1 u (nextL S F l r).length (ints1 (nextL S F l r)) ∧ Below w.heap.size w w' := by
  obtain ⟨W1, hW1⟩ : ∃ W1, (w.alloc (.cells #[.pointer (some ⟨pb, 0, none⟩)] 24)).alloc (.cells #[.int .i32 r] 21) = W1 := ⟨_, rfl⟩
  have hb1 : Below w.heap.size w W1 := by rw [← hW1]; exact bel_new (bel_new (Below.refl _ _) _) _
  have hs1 : W1.heap.size = w.heap.size + 2 := by rw [← hW1]; simp
  have hbx : W1.cell? ⟨w.heap.size, 0, none⟩ = some (.pointer (some ⟨pb, 0, none⟩)) := by rw [← hW1]; exact ((Boxed.new w _ _).alloc _).cell
  have hbr : W1.cell? ⟨w.heap.size + 1, 0, none⟩ = some (.int .i32 r) := by
    rw [← hW1]
    have := (Boxed.new (w.alloc (.cells #[.pointer (some ⟨pb, 0, none⟩)] 24)) 21 (.int .i32 r)).cell
    rwa [World.size_alloc] at this
  have hA : w.heap.size < W1.heap.size := by omega
  have hB : w.heap.size + 1 < W1.heap.size := by omega
  have h1 := h.moved hb1
  have hga := gather_any F l 1000 36 #[.pointer (some ⟨w.heap.size, 0, none⟩)] (enters_of Tryz.func36 (by kernel_rfl) rfl) (fun s => fs.getD s undef) W1 pb o fo c fc h1.lt h1.c1
    (fun s W hs hW => next1_any (h1.moved hW) w.heap.size s ((hW.cell (p := ⟨w.heap.size, 0, none⟩) hA).trans hbx) hs) h1.fol.2.2 (hl.below hb1) h.short.2.1 (by rw [h.lenF]; have := h.few; omega) (by omega) (by omega) (by omega)
  have hfit := gat_fit F l S.length h.fit
  have hglen : (Nf.gat F l).length ≤ S.length := asc_len (Nf.ord_lt _) S.length hfit
  have hdel : DelSays W1 38 #[.pointer (some ⟨w.heap.size, 0, none⟩), .pointer (some ⟨w.heap.size + 1, 0, none⟩)] (Nf.gat F l) (fun x => !has (S.getD x.toNat []) r) := by
    intro x W hx hW
    obtain ⟨m, rfl⟩ : ∃ m : Nat, x = (m : Int) := ⟨x.toNat, by have := (hfit x hx).1; omega⟩
    have := next2_any (h1.moved hW) w.heap.size (w.heap.size + 1) r m ⟨by have := hW.size; omega, by have := hW.size; omega⟩ ((hW.cell (p := ⟨w.heap.size, 0, none⟩) hA).trans hbx) ((hW.cell (p := ⟨w.heap.size + 1, 0, none⟩) hB).trans hbr) (by have := (hfit _ hx).2; omega)
    simpa using this
  have hfew := h.few
  have HGA := Lib.hid hga
  have HD := Lib.hid hdel
  have hmf : ∀ (fn : Fn) (first cap : Array Value) (w : World), (Instr.makeFunc fn first cap).run Tryz.prog w = .ok (.func fn first cap) w := fun _ _ _ _ => rfl
  clear h h1 hl hga hdel hfit hbr
  go_enter Tryz.func11, Tryz.ntmps11
  go_wp2_with (first
    | (go_at_call 35; refine HGA.out.mono ?_; rintro e w2 ⟨u, rfl, hu, hbu⟩)
    | (go_at_call 37; refine (deleteF_any W1 _ _ (enters_of Tryz.func38 (by kernel_rfl) rfl) (Nf.gat F l) _ HD.out u w2 hbu hu (by omega)).mono ?_; rintro e w3 ⟨u3, rfl, hu3, hb3⟩))
  go_ret
  exact ⟨u3, rfl, Joins.ownsRow_le hu3 (by omega), hb1.trans (hb3.mono (by omega))⟩

set_option maxRecDepth 100000 in
set_option maxHeartbeats 2000000 in
theorem rules_any (h : NIs w pb S F E C so fo eo co sc fc ec cc ss fs es) (l : List Int) (o : Option Addr) (c : Nat) (hl : Row w (.slice o l.length c) l.length (ints1 l)) (hll : l.length ≤ 4000) :
    Calls Tryz.prog 15 #[.pointer (some ⟨pb, 0, none⟩), .slice o l.length c] w fun e w' =>
      ∃ u, e = .returned u ∧ w'.ownsRow w.heap.size 3 1 u (Nf.gat E l).length (ints1 (Nf.gat E l)) ∧ Below w.heap.size w w' := by
  obtain ⟨W1, hW1⟩ : ∃ W1, w.alloc (.cells #[.pointer (some ⟨pb, 0, none⟩)] 24) = W1 := ⟨_, rfl⟩
  have hb1 : Below w.heap.size w W1 := by rw [← hW1]; exact bel_new (Below.refl _ _) _
  have hs1 : W1.heap.size = w.heap.size + 1 := by rw [← hW1]; simp
  have hbx : W1.cell? ⟨w.heap.size, 0, none⟩ = some (.pointer (some ⟨pb, 0, none⟩)) := by rw [← hW1]; exact (Boxed.new w _ _).cell
  have hA : w.heap.size < W1.heap.size := by omega
  have h1 := h.moved hb1
  have hga := gather_any E l 1000 40 #[.pointer (some ⟨w.heap.size, 0, none⟩)] (enters_of Tryz.func40 (by kernel_rfl) rfl) (fun s => es.getD s undef) W1 pb o fo c fc h1.lt (by rw [h.lenE, ← h.lenF]; exact h1.c1)
    (fun s W hs hW => rules1_any (h1.moved hW) w.heap.size s ((hW.cell (p := ⟨w.heap.size, 0, none⟩) hA).trans hbx) hs) h1.ends.2.2 (hl.below hb1) h.short.2.2 (by rw [h.lenE]; have := h.few; omega) (by omega) (by omega) (by omega)
  have HGA := Lib.hid hga
  have hmf : ∀ (fn : Fn) (first cap : Array Value) (w : World), (Instr.makeFunc fn first cap).run Tryz.prog w = .ok (.func fn first cap) w := fun _ _ _ _ => rfl
  clear h h1 hl hga
  go_enter Tryz.func15, Tryz.ntmps15
  go_wp2_with (first
    | (go_at_call 35; refine HGA.out.mono ?_; rintro e w2 ⟨u, rfl, hu, hbu⟩))
  go_ret
  exact ⟨u, rfl, Joins.ownsRow_le hu (by omega), hb1.trans (hbu.mono (by omega))⟩

theorem len_any (h : NIs w pb S F E C so fo eo co sc fc ec cc ss fs es) :
    Calls Tryz.prog 12 #[.pointer (some ⟨pb, 0, none⟩)] w fun e w' => e = .returned (.int .i64 S.length) ∧ w' = w := by
  have hc := h.c1
  have hl := h.lenF
  clear h
  go_enter Tryz.func12, Tryz.ntmps12
  go_wp2_with fail
  go_ret
  exact ⟨by rw [← hl]; rfl, rfl⟩
end
theorem len_nil (w : World) : Calls Tryz.prog 12 #[.pointer none] w fun e w' => e = .returned (.int .i64 0) ∧ w' = w := by
  go_enter Tryz.func12, Tryz.ntmps12
  go_wp2_with fail
  go_ret
  exact ⟨rfl, rfl⟩
theorem next_nil (v : Value) (r : Int) (w : World) : Calls Tryz.prog 11 #[.pointer none, v, .int .i32 r] w fun e w' => e = .returned (.slice none 0 0) ∧ Below w.heap.size w w' := by
  go_enter Tryz.func11, Tryz.ntmps11
  go_wp2_with fail
  go_ret
  exact ⟨rfl, bel_new (bel_new (Below.refl _ _) _) _⟩
end Go.Proofs.YtmgfpcblbbpahaaGreat
