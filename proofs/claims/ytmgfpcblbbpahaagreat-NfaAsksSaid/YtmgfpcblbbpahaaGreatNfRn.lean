/- goboref6: the machine of the document while it is built; one more position. -/
import Derived.Test.YtmgfpcblbbpahaaGreatNfRlk
import Derived.OrdersHeld
set_option linter.unusedVariables false
set_option linter.unusedSimpArgs false
namespace Go.Proofs.YtmgfpcblbbpahaaGreat
open Go.RowKit Ru Rn Rn.Ru

theorem mem_addF : ∀ (b a : List Int) (z : Int), z ∈ addF a b ↔ z ∈ a ∨ z ∈ b
  | [], a, z => by simp [addF]
  | y :: b, a, z => by
    have ih := mem_addF b (insD y a) z
    have e : addF a (y :: b) = addF (insD y a) b := rfl
    rw [e, ih, mem_insD, List.mem_cons]
    constructor
    · rintro ((h | h) | h)
      · exact .inr (.inl h)
      · exact .inl h
      · exact .inr (.inr h)
    · rintro (h | h | h)
      · exact .inl (.inr h)
      · exact .inl (.inl h)
      · exact .inr h
theorem getD_set_eq (F : List (List Int)) (j i : Nat) (r : List Int) : (F.set j r).getD i [] = if j = i ∧ i < F.length then r else F.getD i [] := by
  rw [List.getD_eq_getElem?_getD, List.getElem?_set, List.getD_eq_getElem?_getD]
  by_cases e : j = i
  · subst e
    by_cases h : j < F.length
    · simp [h]
    · rw [if_pos rfl, if_neg h, if_neg (fun h2 => h h2.2), List.getElem?_eq_none (by omega)]
  · rw [if_neg e, if_neg (fun h2 => e h2.1)]
theorem mem_linkD (b : List Int) : ∀ (a : List Int) (F : List (List Int)) (i : Nat) (x : Int), x ∈ (linkD b F a).getD i [] ↔ x ∈ F.getD i [] ∨ ((∃ s, s ∈ a ∧ s.toNat = i) ∧ i < F.length ∧ x ∈ b)
  | [], F, i, x => by simp [linkD]
  | s :: a, F, i, x => by
    have e : linkD b F (s :: a) = linkD b (F.set s.toNat (addF (F.getD s.toNat []) b)) a := rfl
    rw [e, mem_linkD b a, List.length_set, getD_set_eq]
    by_cases h : s.toNat = i ∧ i < F.length
    · rw [if_pos h, mem_addF]
      obtain ⟨rfl, hl⟩ := h
      constructor
      · rintro ((h | h) | ⟨⟨t, h1, h2⟩, h3⟩)
        · exact .inl h
        · exact .inr ⟨⟨s, List.mem_cons_self .., rfl⟩, hl, h⟩
        · exact .inr ⟨⟨t, List.mem_cons_of_mem _ h1, h2⟩, h3⟩
      · rintro (h | ⟨_, _, h3⟩)
        · exact .inl (.inl h)
        · exact .inl (.inr h3)
    · rw [if_neg h]
      constructor
      · rintro (h1 | ⟨⟨t, h1, h2⟩, h3⟩)
        · exact .inl h1
        · exact .inr ⟨⟨t, List.mem_cons_of_mem _ h1, h2⟩, h3⟩
      · rintro (h1 | ⟨⟨t, h1, h2⟩, h3⟩)
        · exact .inl h1
        · rcases List.mem_cons.1 h1 with rfl | h4
          · exact absurd ⟨h2, h3.1⟩ h
          · exact .inr ⟨⟨t, h4, h2⟩, h3⟩
theorem mem_linkF (b : List Int) : ∀ (a : List Int) (F : List (List Int)) (i : Nat) (x : Int), x ∈ (linkF F a b).getD i [] ↔ x ∈ F.getD i [] ∨ ((∃ s, s ∈ a ∧ s.toNat = i) ∧ i < F.length ∧ x ∈ b)
  | [], F, i, x => by simp [linkF]
  | s :: a, F, i, x => by
    have e : linkF F (s :: a) b = linkF (F.set s.toNat (F.getD s.toNat [] ++ b)) a b := rfl
    rw [e, mem_linkF b a, List.length_set, getD_set_eq]
    by_cases h : s.toNat = i ∧ i < F.length
    · rw [if_pos h, List.mem_append]
      obtain ⟨rfl, hl⟩ := h
      constructor
      · rintro ((h | h) | ⟨⟨t, h1, h2⟩, h3⟩)
        · exact .inl h
        · exact .inr ⟨⟨s, List.mem_cons_self .., rfl⟩, hl, h⟩
        · exact .inr ⟨⟨t, List.mem_cons_of_mem _ h1, h2⟩, h3⟩
      · rintro (h | ⟨_, _, h3⟩)
        · exact .inl (.inl h)
        · exact .inl (.inr h3)
    · rw [if_neg h]
      constructor
      · rintro (h1 | ⟨⟨t, h1, h2⟩, h3⟩)
        · exact .inl h1
        · exact .inr ⟨⟨t, List.mem_cons_of_mem _ h1, h2⟩, h3⟩
      · rintro (h1 | ⟨⟨t, h1, h2⟩, h3⟩)
        · exact .inl h1
        · rcases List.mem_cons.1 h1 with rfl | h4
          · exact absurd ⟨h2, h3.1⟩ h
          · exact .inr ⟨⟨t, h4, h2⟩, h3⟩
theorem DnOk.mono {n m : Nat} {o : List Int} (h : DnOk n o) (k : n ≤ m) : DnOk m o := ⟨h.1, fun z hz => by have := h.2 z hz; omega⟩
theorem DnOk.in {n : Nat} {o : List Int} (h : DnOk n o) : ∀ z ∈ o, 0 ≤ z ∧ z < (n : Int) := fun z hz => ⟨by have := Ris.above h.1 z hz; omega, h.2 z hz⟩

namespace Nf
def nd : RE → List (List Int) → (Bool × List Int × List Int) × List (List Int)
  | .mk k _ l, F =>
    match l with
    | [] => if k = 1 then ((true, [], []), F) else if k = 2 then ((false, [(F.length : Int)], [(F.length : Int)]), F ++ [[]]) else ((false, [], []), F)
    | [a] => if k = 5 then ((true, (nd a F).1.2.1, (nd a F).1.2.2), linkD (nd a F).1.2.1 (nd a F).2 (nd a F).1.2.2) else ((false, [], []), F)
    | [a, b] =>
      if k = 4 then (((nd a F).1.1 || (nd b (nd a F).2).1.1, addF (nd a F).1.2.1 (nd b (nd a F).2).1.2.1, addF (nd a F).1.2.2 (nd b (nd a F).2).1.2.2), (nd b (nd a F).2).2)
      else if k = 3 then (((nd a F).1.1 && (nd b (nd a F).2).1.1,
          (if (nd a F).1.1 = true then addF (nd a F).1.2.1 (nd b (nd a F).2).1.2.1 else (nd a F).1.2.1),
          (if (nd b (nd a F).2).1.1 = true then addF (nd b (nd a F).2).1.2.2 (nd a F).1.2.2 else (nd b (nd a F).2).1.2.2)),
          linkD (nd b (nd a F).2).1.2.1 (nd b (nd a F).2).2 (nd a F).1.2.2)
      else ((false, [], []), F)
    | _ => ((false, [], []), F)
theorem nd_nil (k : Int) (s : List Pc) (F : List (List Int)) : nd (.mk k s []) F = if k = 1 then ((true, [], []), F) else if k = 2 then ((false, [(F.length : Int)], [(F.length : Int)]), F ++ [[]]) else ((false, [], []), F) := by rw [nd]
theorem nd_star (s : List Pc) (a : RE) (F : List (List Int)) : nd (.mk 5 s [a]) F = ((true, (nd a F).1.2.1, (nd a F).1.2.2), linkD (nd a F).1.2.1 (nd a F).2 (nd a F).1.2.2) := by rw [nd]; simp
theorem nd_alt (s : List Pc) (a b : RE) (F : List (List Int)) (x y : (Bool × List Int × List Int) × List (List Int)) (hx : nd a F = x) (hy : nd b x.2 = y) :
    nd (.mk 4 s [a, b]) F = ((x.1.1 || y.1.1, addF x.1.2.1 y.1.2.1, addF x.1.2.2 y.1.2.2), y.2) := by rw [nd]; simp [hx, hy]
theorem nd_seq (s : List Pc) (a b : RE) (F : List (List Int)) (x y : (Bool × List Int × List Int) × List (List Int)) (hx : nd a F = x) (hy : nd b x.2 = y) :
    nd (.mk 3 s [a, b]) F = ((x.1.1 && y.1.1, (if x.1.1 = true then addF x.1.2.1 y.1.2.1 else x.1.2.1), (if y.1.1 = true then addF y.1.2.2 x.1.2.2 else y.1.2.2)), linkD y.1.2.1 y.2 x.1.2.2) := by rw [nd]; simp [hx, hy]
structure NdOk (m : Nat) (e : RE) (F : List (List Int)) (r : (Bool × List Int × List Int) × List (List Int)) (p : (Bool × List Int × List Int) × Int × List (List Int)) : Prop where
  emp : r.1.1 = p.1.1
  fst : ∀ x, x ∈ r.1.2.1 ↔ x ∈ p.1.2.1
  lst : ∀ x, x ∈ r.1.2.2 ↔ x ∈ p.1.2.2
  row : ∀ i, m ≤ i → ∀ x, x ∈ r.2.getD i [] ↔ x ∈ p.2.2.getD i []
  len : r.2.length = F.length + (sts e).length
  fok : DnOk r.2.length r.1.2.1
  lok : DnOk r.2.length r.1.2.2
  rok : ∀ q ∈ r.2, DnOk r.2.length q
theorem nd_ok (m : Nat) : ∀ (N : Nat) (e : RE), e.size ≤ N → e.prt = true → ∀ (F G : List (List Int)), (∀ q ∈ F, DnOk F.length q) → (∀ i, m ≤ i → ∀ x, x ∈ F.getD i [] ↔ x ∈ G.getD i []) → F.length + (sts e).length ≤ G.length → NdOk m e F (nd e F) (pt e F.length G) := by
  intro N
  induction N with
  | zero => intro e h; have := e.size_pos; omega
  | succ N ih =>
    intro e h hp F G hF hG hl
    cases e with
    | mk k s l =>
      rw [RE.size_mk] at h
      rcases prt_cases hp with ⟨rfl, rfl⟩ | ⟨rfl, rfl⟩ | ⟨rfl, rfl, _⟩ | ⟨rfl, a, rfl, ha⟩ | ⟨hk, a, b, rfl, ha, hb⟩
      · rw [nd_nil, pt_nil]; simp only [show ¬ (0 : Int) = 1 by omega, show ¬ (0 : Int) = 2 by omega, if_false]
        exact ⟨rfl, fun x => Iff.rfl, fun x => Iff.rfl, hG, by simp [sts_mk, stsL_nil], DnOk.nil _, DnOk.nil _, hF⟩
      · rw [nd_nil, pt_nil]; simp only [if_true]
        exact ⟨rfl, fun x => Iff.rfl, fun x => Iff.rfl, hG, by simp [sts_mk, stsL_nil], DnOk.nil _, DnOk.nil _, hF⟩
      · rw [nd_nil, pt_nil]; simp only [show ¬ (2 : Int) = 1 by omega, if_false, if_true]
        have hn : DnOk (F ++ [([] : List Int)]).length [(F.length : Int)] := ⟨⟨by omega, trivial⟩, fun z hz => by rw [List.mem_singleton.1 hz, List.length_append, List.length_singleton]; omega⟩
        refine ⟨rfl, fun x => Iff.rfl, fun x => Iff.rfl, fun i hi x => ?_, by simp [sts_mk, stsL_nil], hn, hn, fun q hq => ?_⟩
        · rw [← hG i hi x]
          by_cases hi : i < F.length
          · rw [List.getD_eq_getElem?_getD, List.getD_eq_getElem?_getD, List.getElem?_append_left hi]
          · rw [List.getD_eq_getElem?_getD, List.getD_eq_getElem?_getD, List.getElem?_append_right (by omega), List.getElem?_eq_none (l := F) (by omega)]
            cases i - F.length with
            | zero => simp
            | succ j => simp
        · rw [List.mem_append] at hq
          rcases hq with hq | hq
          · exact (hF q hq).mono (by simp)
          · rw [List.mem_singleton.1 hq]; exact DnOk.nil _
      · rw [RE.sizes_cons, RE.sizes_nil] at h
        have es : sts (.mk 5 s [a]) = sts a := by simp [sts_mk, stsL_cons, stsL_nil]
        rw [es] at hl
        have h1 := ih a (by omega) ha F G hF hG hl
        rw [nd_star, pt_star]
        have hpt := pt_ok a.size a (Nat.le_refl _) ha F.length G (by omega)
        generalize pt a F.length G = p at h1 hpt
        generalize nd a F = r at h1
        refine ⟨rfl, h1.fst, h1.lst, fun i hi x => ?_, by rw [es, linkD_len]; exact h1.len, by rw [linkD_len]; exact h1.fok, by rw [linkD_len]; exact h1.lok, fun q hq => ?_⟩
        · show x ∈ (linkD r.1.2.1 r.2 r.1.2.2).getD i [] ↔ x ∈ (linkF p.2.2 p.1.2.2 p.1.2.1).getD i []
          rw [mem_linkD, mem_linkF, h1.row i hi x, h1.fst x]
          have hpl := hpt.len
          constructor
          · rintro (h2 | ⟨⟨t, h2, h3⟩, h4, h5⟩)
            · exact .inl h2
            · exact .inr ⟨⟨t, (h1.lst t).1 h2, h3⟩, by have := h1.len; omega, h5⟩
          · rintro (h2 | ⟨⟨t, h2, h3⟩, h4, h5⟩)
            · exact .inl h2
            · have h6 := (h1.lst t).2 h2
              exact .inr ⟨⟨t, h6, h3⟩, by have := h1.lok.in t h6; omega, h5⟩
        · rw [linkD_len]
          exact linkD_ok _ _ h1.fok.in _ _ h1.rok q hq
      · rw [RE.sizes_cons, RE.sizes_cons, RE.sizes_nil] at h
        have k2 : ¬ k = 2 := by omega
        have es : sts (.mk k s [a, b]) = sts a ++ sts b := by simp [sts_mk, stsL_cons, stsL_nil, k2]
        rw [es, List.length_append] at hl
        have h1 := ih a (by omega) ha F G hF hG (by omega)
        have p1 := pt_ok a.size a (Nat.le_refl _) ha F.length G (by omega)
        obtain ⟨x, hx⟩ : ∃ x, nd a F = x := ⟨_, rfl⟩
        obtain ⟨u, hu⟩ : ∃ u, pt a F.length G = u := ⟨_, rfl⟩
        rw [hx, hu] at h1
        rw [hu] at p1
        have hun : u.2.1 = (x.2.length : Int) := by rw [p1.nxt, h1.len]; omega
        have h2 := ih b (by omega) hb x.2 u.2.2 h1.rok h1.row (by rw [h1.len, p1.len]; omega)
        have p2 := pt_ok b.size b (Nat.le_refl _) hb x.2.length u.2.2 (by omega)
        rw [← hun] at h2 p2
        obtain ⟨y, hy⟩ : ∃ y, nd b x.2 = y := ⟨_, rfl⟩
        obtain ⟨v, hv⟩ : ∃ v, pt b u.2.1 u.2.2 = v := ⟨_, rfl⟩
        rw [hy, hv] at h2
        rw [hv] at p2
        have l1 := h1.len
        have l2 := h2.len
        have hle : x.2.length ≤ y.2.length := by omega
        have hadd : ∀ (p q : List Int), DnOk y.2.length p → DnOk y.2.length q → DnOk y.2.length (addF p q) := fun p q h3 h4 => addF_ok _ q p h3 h4.in
        rcases hk with rfl | rfl
        · rw [nd_seq s a b F x y hx hy, pt_seq s a b F.length G u v hu hv]
          refine ⟨by show (_ && _) = (_ && _); rw [h1.emp, h2.emp], fun z => ?_, fun z => ?_, fun i hi z => ?_, by rw [es, linkD_len, List.length_append]; omega, ?_, ?_, fun q hq => ?_⟩
          · show z ∈ (if x.1.1 = true then addF x.1.2.1 y.1.2.1 else x.1.2.1) ↔ z ∈ (if u.1.1 = true then u.1.2.1 ++ v.1.2.1 else u.1.2.1)
            rw [← h1.emp]
            split
            · rw [mem_addF, List.mem_append, h1.fst z, h2.fst z]
            · exact h1.fst z
          · show z ∈ (if y.1.1 = true then addF y.1.2.2 x.1.2.2 else y.1.2.2) ↔ z ∈ (if v.1.1 = true then v.1.2.2 ++ u.1.2.2 else v.1.2.2)
            rw [← h2.emp]
            split
            · rw [mem_addF, List.mem_append, h1.lst z, h2.lst z]
            · exact h2.lst z
          · show z ∈ (linkD y.1.2.1 y.2 x.1.2.2).getD i [] ↔ z ∈ (linkF v.2.2 u.1.2.2 v.1.2.1).getD i []
            rw [mem_linkD, mem_linkF, h2.row i hi z, h2.fst z]
            have q1 := p1.len
            have q2 := p2.len
            constructor
            · rintro (h3 | ⟨⟨t, h3, h4⟩, h5, h6⟩)
              · exact .inl h3
              · exact .inr ⟨⟨t, (h1.lst t).1 h3, h4⟩, by omega, h6⟩
            · rintro (h3 | ⟨⟨t, h3, h4⟩, h5, h6⟩)
              · exact .inl h3
              · have h7 := (h1.lst t).2 h3
                exact .inr ⟨⟨t, h7, h4⟩, by have := h1.lok.in t h7; omega, h6⟩
          · rw [linkD_len]
            show DnOk _ (if x.1.1 = true then addF x.1.2.1 y.1.2.1 else x.1.2.1)
            split
            · exact hadd _ _ (h1.fok.mono hle) h2.fok
            · exact h1.fok.mono hle
          · rw [linkD_len]
            show DnOk _ (if y.1.1 = true then addF y.1.2.2 x.1.2.2 else y.1.2.2)
            split
            · exact hadd _ _ h2.lok (h1.lok.mono hle)
            · exact h2.lok
          · rw [linkD_len]
            exact linkD_ok _ _ h2.fok.in _ _ h2.rok q hq
        · rw [nd_alt s a b F x y hx hy, pt_alt s a b F.length G u v hu hv]
          refine ⟨by show (_ || _) = (_ || _); rw [h1.emp, h2.emp], fun z => ?_, fun z => ?_, h2.row, by rw [es, List.length_append]; show y.2.length = _; omega, hadd _ _ (h1.fok.mono hle) h2.fok, hadd _ _ (h1.lok.mono hle) h2.lok, h2.rok⟩
          · show z ∈ addF x.1.2.1 y.1.2.1 ↔ z ∈ u.1.2.1 ++ v.1.2.1
            rw [mem_addF, List.mem_append, h1.fst z, h2.fst z]
          · show z ∈ addF x.1.2.2 y.1.2.2 ↔ z ∈ u.1.2.2 ++ v.1.2.2
            rw [mem_addF, List.mem_append, h1.lst z, h2.lst z]
theorem nd_self (e : RE) (hp : e.prt = true) (F : List (List Int)) (hF : ∀ q ∈ F, DnOk F.length q) : (nd e F).2.length = F.length + (sts e).length ∧ DnOk (nd e F).2.length (nd e F).1.2.1 ∧ DnOk (nd e F).2.length (nd e F).1.2.2 ∧ ∀ q ∈ (nd e F).2, DnOk (nd e F).2.length q := by
  have h := nd_ok 0 e.size e (Nat.le_refl _) hp F (F ++ List.replicate (sts e).length []) hF (fun i _ x => by
    by_cases hi : i < F.length
    · rw [List.getD_eq_getElem?_getD, List.getD_eq_getElem?_getD, List.getElem?_append_left hi]
    · rw [List.getD_eq_getElem?_getD, List.getD_eq_getElem?_getD, List.getElem?_append_right (by omega), List.getElem?_eq_none (l := F) (by omega)]
      rw [List.getElem?_replicate]; split <;> simp) (by simp)
  exact ⟨h.len, h.fok, h.lok, h.rok⟩
end Nf
end Go.Proofs.YtmgfpcblbbpahaaGreat

namespace Go.Proofs.YtmgfpcblbbpahaaGreat
open Go

section
variable {P : Program} {ops : Array Oper} {Q : Exit → Act → World → Prop} {md : Region.Mode} {C : World → Prop} {t : Nat}
def wpAnyT (P : Program) (md : Region.Mode) (ops : Array Oper) (Q : Exit → Act → World → Prop) (t : Nat) (C : World → Prop) : Nat → Array Bool → Act → World → Prop
  | 0, listed, a, w => Region.ready md ops listed = [] ∧ Q .normal a w
  | fuel + 1, listed, a, w =>
    (Region.ready md ops listed = [] → Q .normal a w) ∧
    ∀ i ∈ Region.ready md ops listed, wpOp P ops Q i (fun a' w' => ((listed.setIfInBounds i true).getD t false = false → C w') ∧ wpAnyT P md ops Q t C fuel (listed.setIfInBounds i true) a' w') a w
theorem wpAny_of_till : ∀ (fuel : Nat) (listed : Array Bool) (a : Act) (w : World), wpAnyT P md ops Q t C fuel listed a w → wpAny P md ops Q fuel listed a w
  | 0, _, _, _, h => h
  | fuel + 1, _, _, _, h => ⟨h.1, fun i hi => wpOp_mono (fun a' w' h' => wpAny_of_till fuel _ a' w' h'.2) (h.2 i hi)⟩
theorem wpAnyT_of : ∀ (fuel : Nat) (listed : Array Bool) (a : Act) (w : World), listed.getD t false = true → wpAny P md ops Q fuel listed a w → wpAnyT P md ops Q t C fuel listed a w
  | 0, _, _, _, _, h => h
  | fuel + 1, listed, _, _, hl, h => ⟨h.1, fun i hi => wpOp_mono (fun a' w' h' => by
      have hs : (listed.setIfInBounds i true).getD t false = true := by
        by_cases e : i = t
        · subst e
          rcases Nat.lt_or_ge i listed.size with h | h
          · simp [h]
          · simp [Array.getElem?_eq_none h] at hl
        · rw [getD_set_ne false e]; exact hl
      exact ⟨fun h0 => absurd (hs.symm.trans h0) (by decide), wpAnyT_of fuel _ a' w' hs h'⟩) (h.2 i hi)⟩
def waits (md : Region.Mode) (ops : Array Oper) (t i : Nat) : Bool := ((ops[t]?).map (·.after.any fun e => Region.binds md e && e.on == i)).getD false
theorem waits_spec {i j : Nat} {listed : Array Bool} {oj : Oper} (hw : waits md ops t i = true) (hoj : ops[j]? = some oj) (hn : ∀ e ∈ oj.after, Region.binds md e = true → e.on ≠ i) : j ≠ t := by
  rintro rfl
  unfold waits at hw
  rw [hoj] at hw
  simp only [Option.map_some, Option.getD_some, Array.any_eq_true'] at hw
  obtain ⟨e, he, h2⟩ := hw
  simp only [Bool.and_eq_true, beq_iff_eq] at h2
  exact hn e he h2.1 h2.2
theorem unlisted_edge {i j : Nat} {listed : Array Bool} {oj : Oper} (hr : i ∈ Region.ready md ops listed) (hall : ∀ e ∈ oj.after, Region.binds md e = true → listed.getD e.on false = true) : ∀ e ∈ oj.after, Region.binds md e = true → e.on ≠ i := fun e he hb heq => by
  have h1 := hall e he hb
  have h0 := (mem_ready.1 hr).1
  rw [heq] at h1
  rcases Nat.lt_or_ge i listed.size with h' | h'
  · simp [h'] at h0 h1; rw [h0] at h1; cases h1
  · simp [Array.getElem?_eq_none h'] at h1
theorem wpAnyT_first {i : Nat} {oi : Oper} {v : Value} (hi : ops[i]? = some oi) (hsel : ∀ (j : Nat) (o : Oper) cs b, ops[j]? = some o → o.op ≠ .select cs b)
    (hQ : ∀ c a w, Q (.panic c) (a.put oi.dst v) w → Q (.panic c) a w) (hwt : waits md ops t i = true) :
    ∀ (fuel : Nat) (listed : Array Bool) (a : Act) (w : World),
      (∀ j oj, ops[j]? = some oj → j ≠ i → listed.getD j true = false → (∀ e ∈ oj.after, Region.binds md e = true → e.on ≠ i) → oi.apart ops oj = true) →
      i ∈ Region.ready md ops listed → listed.getD t false = false → YieldsIf P ops C oi v a → C w →
      wpAnyT P md ops Q t C fuel (listed.setIfInBounds i true) (a.put oi.dst v) w → wpAnyT P md ops Q t C (fuel + 1) listed a w := by
  intro fuel
  induction fuel with
  | zero =>
    intro listed a w _ hr _ hy hS H
    refine ⟨fun h => (by rw [h] at hr; cases hr), fun j hj => ?_⟩
    by_cases hji : j = i
    · subst hji; exact hy.wpOp hi hS ⟨fun _ => hS, H⟩
    · have := ready_mono hj hji
      rw [H.1] at this
      cases this
  | succ fuel ih =>
    intro listed a w hfree hr ht hy hS H
    refine ⟨fun h => (by rw [h] at hr; cases hr), fun j hj => ?_⟩
    by_cases hji : j = i
    · subst hji; exact hy.wpOp hi hS ⟨fun _ => hS, H⟩
    · have h1 := H.2 j (ready_mono hj hji)
      obtain ⟨hjun, oj, hoj, hall⟩ := mem_ready.1 hj
      obtain ⟨_, oi', hoi', halli⟩ := mem_ready.1 hr
      have hnot := unlisted_edge (j := j) hr hall
      have hjt : j ≠ t := waits_spec (listed := listed) hwt hoj hnot
      have hit : i ≠ t := waits_spec (listed := listed) hwt hoi' (unlisted_edge (j := i) hr halli)
      have h2 := wpOp_putIf hoj (hfree j oj hoj hji hjun hnot) (fun cs b => hsel i oi cs b hi) (fun cs b => hsel j oj cs b hoj) hQ hy h1
      have hfree' : ∀ k ok, ops[k]? = some ok → k ≠ i → (listed.setIfInBounds j true).getD k true = false →
          (∀ e ∈ ok.after, Region.binds md e = true → e.on ≠ i) → oi.apart ops ok = true := fun k ok hk hki hun hno => by
        refine hfree k ok hk hki ?_ hno
        by_cases hjk : j = k
        · subst hjk; exact hjun
        · rw [getD_set_ne true hjk] at hun; exact hun
      have htj : (listed.setIfInBounds j true).getD t false = false := by rw [getD_set_ne false hjt]; exact ht
      have htij : ((listed.setIfInBounds i true).setIfInBounds j true).getD t false = false := by rw [getD_set_ne false hjt, getD_set_ne false hit]; exact ht
      refine wpOp_mono (fun a' w' h3 => ⟨fun _ => h3.2.1 htij, ih (listed.setIfInBounds j true) a' w' hfree' (ready_mono hr (Ne.symm hji)) htj h3.1 (h3.2.1 htij) ?_⟩) h2
      rw [Array.setIfInBounds_comm _ _ hji]
      exact h3.2.2
theorem wpAnyT_take {i : Nat} {oi : Oper} {v : Value} {fuel : Nat} {listed : Array Bool} {a : Act} {w : World} (hi : ops[i]? = some oi)
    (hs : Region.noSelect ops = true) (hf : Region.free md ops listed i = true) (hr : (Region.ready md ops listed).contains i = true)
    (hQ : ∀ c a w, Q (.panic c) (a.put oi.dst v) w → Q (.panic c) a w) (hwt : waits md ops t i = true) (ht : listed.getD t false = false) (hy : YieldsIf P ops C oi v a) (hC : C w)
    (h : wpAnyT P md ops Q t C fuel (listed.setIfInBounds i true) (a.put oi.dst v) w) : wpAnyT P md ops Q t C (fuel + 1) listed a w :=
  wpAnyT_first hi (Region.noSelect_spec hs) hQ hwt fuel listed a w (Region.free_spec hi hf) (by simpa using hr) ht hy hC h
theorem wpAnyT_firstW {i : Nat} {oi : Oper} {v : Value} (hi : ops[i]? = some oi) (hsel : ∀ (j : Nat) (o : Oper) cs b, ops[j]? = some o → o.op ≠ .select cs b)
    (hQ : ∀ c a w, Q (.panic c) (a.put oi.dst v) w → Q (.panic c) a w) (hit : i ≠ t) :
    ∀ (fuel : Nat) (listed : Array Bool) (a : Act) (w : World),
      (∀ j oj, ops[j]? = some oj → j ≠ i → listed.getD j true = false → (∀ e ∈ oj.after, Region.binds md e = true → e.on ≠ i) → oi.apart ops oj = true) →
      i ∈ Region.ready md ops listed → (listed.getD t false = false → C w) → YieldsIf P ops (fun _ => True) oi v a →
      wpAnyT P md ops Q t C fuel (listed.setIfInBounds i true) (a.put oi.dst v) w → wpAnyT P md ops Q t C (fuel + 1) listed a w := by
  intro fuel
  induction fuel with
  | zero =>
    intro listed a w _ hr hC hy H
    refine ⟨fun h => (by rw [h] at hr; cases hr), fun j hj => ?_⟩
    by_cases hji : j = i
    · subst hji; exact hy.wpOp hi trivial ⟨fun h => hC (by rw [getD_set_ne false hit] at h; exact h), H⟩
    · have := ready_mono hj hji
      rw [H.1] at this
      cases this
  | succ fuel ih =>
    intro listed a w hfree hr hC hy H
    refine ⟨fun h => (by rw [h] at hr; cases hr), fun j hj => ?_⟩
    by_cases hji : j = i
    · subst hji; exact hy.wpOp hi trivial ⟨fun h => hC (by rw [getD_set_ne false hit] at h; exact h), H⟩
    · have h1 := H.2 j (ready_mono hj hji)
      obtain ⟨hjun, oj, hoj, hall⟩ := mem_ready.1 hj
      have hnot := unlisted_edge (j := j) hr hall
      have h2 := wpOp_putIf hoj (hfree j oj hoj hji hjun hnot) (fun cs b => hsel i oi cs b hi) (fun cs b => hsel j oj cs b hoj) hQ hy h1
      have hfree' : ∀ k ok, ops[k]? = some ok → k ≠ i → (listed.setIfInBounds j true).getD k true = false →
          (∀ e ∈ ok.after, Region.binds md e = true → e.on ≠ i) → oi.apart ops ok = true := fun k ok hk hki hun hno => by
        refine hfree k ok hk hki ?_ hno
        by_cases hjk : j = k
        · subst hjk; exact hjun
        · rw [getD_set_ne true hjk] at hun; exact hun
      have e1 : ((listed.setIfInBounds i true).setIfInBounds j true).getD t false = (listed.setIfInBounds j true).getD t false := by
        rw [Array.setIfInBounds_comm _ _ (Ne.symm hji), getD_set_ne false hit]
      refine wpOp_mono (fun a' w' h3 => ⟨fun h => h3.2.1 (e1.trans h), ih (listed.setIfInBounds j true) a' w' hfree' (ready_mono hr (Ne.symm hji)) (fun h => h3.2.1 (e1.trans h)) h3.1 ?_⟩) h2
      rw [Array.setIfInBounds_comm _ _ hji]
      exact h3.2.2
theorem wpAnyT_takeW {i : Nat} {oi : Oper} {v : Value} {fuel : Nat} {listed : Array Bool} {a : Act} {w : World} (hi : ops[i]? = some oi)
    (hs : Region.noSelect ops = true) (hf : Region.free md ops listed i = true) (hr : (Region.ready md ops listed).contains i = true)
    (hQ : ∀ c a w, Q (.panic c) (a.put oi.dst v) w → Q (.panic c) a w) (hit : i ≠ t) (hy : YieldsIf P ops (fun _ => True) oi v a) (hC : C w)
    (h : wpAnyT P md ops Q t C fuel (listed.setIfInBounds i true) (a.put oi.dst v) w) : wpAnyT P md ops Q t C (fuel + 1) listed a w :=
  wpAnyT_firstW hi (Region.noSelect_spec hs) hQ hit fuel listed a w (Region.free_spec hi hf) (by simpa using hr) (fun _ => hC) hy h
theorem wpAnyT_all {rs : List Nat} {fuel : Nat} {listed : Array Bool} {a : Act} {w : World} (hr : Region.ready md ops listed = rs) (hne : rs ≠ [])
    (h : ∀ i ∈ rs, wpOp P ops Q i (fun a' w' => ((listed.setIfInBounds i true).getD t false = false → C w') ∧ wpAnyT P md ops Q t C fuel (listed.setIfInBounds i true) a' w') a w) : wpAnyT P md ops Q t C (fuel + 1) listed a w :=
  ⟨fun h0 => absurd (hr ▸ h0) hne, hr ▸ h⟩
theorem wp_region_till {id : Nat} {a : Act} {w : World} (hm : P.follows .mixedOrders = true)
    (h : wpAnyT P .any ops Q t C ops.size (Array.replicate ops.size false) a w.drew) : (Code.region id ops true).wp P Q a w :=
  wp_region_any hm (wpAny_of_till _ _ _ _ h)
end
end Go.Proofs.YtmgfpcblbbpahaaGreat

namespace Go.Proofs.YtmgfpcblbbpahaaGreat
open Go.RowKit Ru Rn Rn.Ru

def Kty (ty : TypeId) (w w' : World) : Prop := ∀ (k : Nat) (cs : Array Value) (z : Nat × Nat), w.heap[k]? = some (.cells cs ty z) → w'.heap[k]? = some (.cells cs ty z)
theorem Kty.of {ty : TypeId} {w w' : World} (h : Below w.heap.size w w') : Kty ty w w' := fun k cs z hk => bel_get h hk
theorem Kty.trans {ty : TypeId} {a b c : World} (h : Kty ty a b) (k : Kty ty b c) : Kty ty a c := fun i cs z hi => k i cs z (h i cs z hi)
theorem Kty.grown {ty e : TypeId} {w w' : World} {B s n : Nat} {v : Value} {xs : List Value} (hown : w.ownsRow B e s v n xs) (hg : w.grownBy w' v.ownBlock) (hne : ty ≠ e) : Kty ty w w' := fun k cs z hk => by
  rw [hg.block k (Array.getElem?_eq_some_iff.1 hk).1 (fun e1 => own_apart hown hk hne e1.symm)]; exact hk
theorem Kty.set {ty t : TypeId} {w : World} {p : Addr} {cs : Array Value} {z : Nat × Nat} (hp : w.heap[p.block]? = some (.cells cs t z)) (hne : t ≠ ty) (x : Value) : Kty ty w (w.setCell p x) := fun k cs' z' hk => by
  rw [Below.heap_setCell _ _ _ _ (show k ≠ p.block from fun e => by rw [e, hp] at hk; simp at hk; exact hne hk.2.1)]; exact hk
theorem owns_kty {ty : TypeId} {w w' : World} {B s n : Nat} {v : Value} {xs : List Value} (h : w.ownsRow B ty s v n xs) (k : Kty ty w w') : w'.ownsRow B ty s v n xs := by
  refine ⟨h.1, ?_⟩
  rcases h.2 with hn | ⟨g, cap, cur, rfl, hb, hgg, rest⟩
  · exact .inl hn
  · exact .inr ⟨g, cap, cur, rfl, hb, k g cur _ hgg, rest⟩

structure RN (w0 w : World) (pb : Nat) (T : Nat → Prop) (vS vO v2 vL vF v5 : Value) (ss fs : List Value) (S : List (List Pc)) (O : List Int) (L : List Bool) (F : List (List Int)) : Prop where
  blk : w.heap[pb]? = some (.cells #[vS, vO, v2, vL, vF, v5] 49 (0, 0))
  sets : w.ownsRow w0.heap.size 39 1 vS S.length ss
  sl : ss.length = S.length
  sr : ∀ i, i < S.length → Row w0 (ss.getD i undef) (S.getD i []).length (flatK .i32 (S.getD i []))
  ofs : w.ownsRow w0.heap.size 3 1 vO O.length (ints1 O)
  last : w.ownsRow w0.heap.size 4 1 vL L.length (L.map Value.bool)
  fol : RFol w w0.heap.size (fun j => ¬ T j) vF fs F
  lenO : O.length = S.length
  lenL : L.length = S.length
  lenF : F.length = S.length
  tp : T pb
  tS : ∀ j, vS.ownBlock = some j → T j
  tO : ∀ j, vO.ownBlock = some j → T j
  tL : ∀ j, vL.ownBlock = some j → T j
  tF : ∀ j, vF.ownBlock = some j → T j
  tlt : ∀ j, T j → w0.heap.size ≤ j ∧ j < w.heap.size
  bel : Below w0.heap.size w0 w
structure RTr (T : Nat → Prop) (w : World) (T' : Nat → Prop) (w' : World) : Prop where
  ag : Ag (fun j => ¬ T j) w w'
  new : ∀ j, T' j → T j ∨ w.heap.size ≤ j
structure PRd (w : World) (B : Nat) (T : Nat → Prop) (v : Value) (l : List Int) : Prop where
  own : w.ownsRow B 3 1 v l.length (ints1 l)
  no : ∀ j, v.ownBlock = some j → ¬ T j
section
variable {w0 w w' w1 w2 : World} {B B' pb : Nat} {T T' T1 T2 : Nat → Prop} {v vS vO v2 vL vF v5 : Value} {ss fs fs' : List Value} {S : List (List Pc)} {O l : List Int} {L : List Bool} {F F' : List (List Int)}
theorem RTr.refl (T : Nat → Prop) (w : World) : RTr T w T w := ⟨Ag.refl _ w, fun j h => .inl h⟩
theorem RTr.old (h : Below w.heap.size w w') : RTr T w T w' := ⟨.of h, fun j hj => .inl hj⟩
theorem RTr.trans (h : RTr T w T1 w1) (k : RTr T1 w1 T2 w2) : RTr T w T2 w2 := by
  have hs := h.ag.size
  refine ⟨⟨k.ag.os.trans h.ag.os, k.ag.tape.trans h.ag.tape, k.ag.output.trans h.ag.output, Nat.le_trans hs k.ag.size, fun j hj hS => (k.ag.block j (by omega) fun hj2 => ?_).trans (h.ag.block j hj hS)⟩, fun j hj => ?_⟩
  · rcases h.new j hj2 with h4 | h4
    · exact hS h4
    · omega
  · rcases k.new j hj with h4 | h4
    · exact h.new j h4
    · exact .inr (by omega)
theorem PRd.tr (h : PRd w B T v l) (k : RTr T w T' w') : PRd w' B T' v l := by
  refine ⟨owns_ag h.own k.ag h.no, fun j hj hj2 => ?_⟩
  rcases k.new j hj2 with h4 | h4
  · exact h.no j hj h4
  · have := (h.own.lt j hj).2; omega
theorem PRd.moved (h : PRd w B T v l) (k : Below w.heap.size w w') : PRd w' B T v l := ⟨owns_below h.own k, h.no⟩
theorem PRd.nil (w : World) (B : Nat) (T : Nat → Prop) : PRd w B T (.slice none 0 0) [] := ⟨World.ownsRow_nil _ _ _ _, fun j hj => by simp [Value.ownBlock] at hj⟩
theorem PRd.add (h : w'.ownsRow w.heap.size 3 1 v l.length (ints1 l)) (hT : ∀ j, T j → j < w.heap.size) (hB : B ≤ w.heap.size) : PRd w' B T v l :=
  ⟨owns_base h hB, fun j hj hj2 => by have := hT j hj2; have := (h.lt j hj).1; omega⟩
theorem PRd.form (h : PRd w B T v l) : ∃ o c, v = .slice o l.length c := nf_slice h.own
theorem PRd.row (h : PRd w B T v l) : Row w v l.length (ints1 l) := Row.owned h.own
theorem RN.moved (h : RN w0 w pb T vS vO v2 vL vF v5 ss fs S O L F) (k : Below w.heap.size w w') : RN w0 w' pb T vS vO v2 vL vF v5 ss fs S O L F :=
  ⟨bel_get k h.blk, owns_below h.sets k, h.sl, h.sr, owns_below h.ofs k, owns_below h.last k, h.fol.moved k, h.lenO, h.lenL, h.lenF, h.tp, h.tS, h.tO, h.tL, h.tF, fun j hj => ⟨(h.tlt j hj).1, Nat.lt_of_lt_of_le (h.tlt j hj).2 k.size⟩, h.bel.trans (k.mono h.bel.size)⟩
theorem RN.low (h : RN w0 w pb T vS vO v2 vL vF v5 ss fs S O L F) : w0.heap.size ≤ pb ∧ pb < w.heap.size := h.tlt pb h.tp
theorem RN.set (h : RN w0 w pb T vS vO v2 vL vF v5 ss fs S O L F) {p : Addr} {cs : Array Value} {t : TypeId} {z : Nat × Nat} (hp : w.heap[p.block]? = some (.cells cs t z)) (h1 : t ≠ 49) (h2 : t ≠ 39) (h3 : t ≠ 3) (h4 : t ≠ 4) (h5 : t ≠ 23) (hB : w0.heap.size ≤ p.block) (x : Value) :
    RN w0 (w.setCell p x) pb T vS vO v2 vL vF v5 ss fs S O L F :=
  ⟨Kty.set hp h1 x _ _ _ h.blk, owns_kty h.sets (Kty.set hp h2 x), h.sl, h.sr, owns_kty h.ofs (Kty.set hp h3 x), owns_kty h.last (Kty.set hp h4 x),
   ⟨h.fol.len, owns_kty h.fol.tab (Kty.set hp h5 x), fun i hi => owns_kty (h.fol.own i hi) (Kty.set hp h3 x), h.fol.ok⟩, h.lenO, h.lenL, h.lenF, h.tp, h.tS, h.tO, h.tL, h.tF, fun j hj => ⟨(h.tlt j hj).1, by have := (h.tlt j hj).2; simpa [World.setCell] using this⟩, h.bel.setCell hB x⟩
theorem PRd.set (h : PRd w B T v l) {p : Addr} {cs : Array Value} {t : TypeId} {z : Nat × Nat} (hp : w.heap[p.block]? = some (.cells cs t z)) (h3 : t ≠ 3) (x : Value) : PRd (w.setCell p x) B T v l := ⟨owns_kty h.own (Kty.set hp h3 x), h.no⟩
theorem RTr.set (h : RTr T w T' w') {b i : Nat} (hb : w.heap.size ≤ b) (x : Value) : RTr T w T' (w'.setCell ⟨b, i, none⟩ x) := by
  refine ⟨⟨h.ag.os, h.ag.tape, h.ag.output, by have := h.ag.size; simpa [World.setCell] using this, fun j hj hS => ?_⟩, h.new⟩
  rw [Below.heap_setCell _ _ _ _ (show j ≠ (⟨b, i, none⟩ : Addr).block by show j ≠ b; omega)]
  exact h.ag.block j hj hS
theorem RN.linked (h : RN w0 w pb T vS vO v2 vL vF v5 ss fs S O L F) (hl : F'.length = F.length) {g c : Nat} (hv : vF = .slice (some ⟨g, 0, none⟩) F.length c) (hf : RFol w' w0.heap.size (fun j => ¬ T j) vF fs' F') (ha : Ag (fun j => j ≠ g) w w') :
    RN w0 w' pb T vS vO v2 vL vF v5 ss fs' S O L F' ∧ RTr T w T w' := by
  have hg : vF.ownBlock = some g := by rw [hv]; rfl
  obtain ⟨cur, hgt⟩ := own_typ h.fol.tab hg
  have hk : ∀ ty, ty ≠ 23 → Kty ty w w' := fun ty hne k cs z hk => by
    rw [ha.block k (Array.getElem?_eq_some_iff.1 hk).1 (fun e => by rw [e, hgt] at hk; simp at hk; exact hne hk.2.1.symm)]; exact hk
  have hag : Ag (fun j => ¬ T j) w w' := ha.sub fun k _ hT e => hT (e ▸ h.tF g hg)
  refine ⟨⟨hk _ (by decide) _ _ _ h.blk, owns_kty h.sets (hk _ (by decide)), h.sl, h.sr, owns_kty h.ofs (hk _ (by decide)), owns_kty h.last (hk _ (by decide)), hf, h.lenO, h.lenL, by rw [hl]; exact h.lenF, h.tp, h.tS, h.tO, h.tL, h.tF, fun j hj => ⟨(h.tlt j hj).1, Nat.lt_of_lt_of_le (h.tlt j hj).2 ha.size⟩, h.bel.trans (hag.below h.bel.size fun k hk hT => by have := (h.tlt k hT).1; omega)⟩, ⟨hag, fun j hj => .inl hj⟩⟩
end
end Go.Proofs.YtmgfpcblbbpahaaGreat
