/- What nfa.part makes of an expression: plain mathematics. -/
import Derived.Test.YtmgfpcblbbpahaaGreatNfLink
import Derived.Test.YtmgfpcblbbpahaaGreatGRefE
set_option linter.unusedVariables false
set_option linter.unusedSimpArgs false
namespace Go.Proofs.YtmgfpcblbbpahaaGreat
open Go.RowKit Ru

namespace Nf
/-- what a part is: may it be empty, its first and its last places; the next place; who follows whom -/
def pt : RE → Int → List (List Int) → (Bool × List Int × List Int) × Int × List (List Int)
  | .mk k _ l, n, F =>
    match l with
    | [] => if k = 1 then ((true, [], []), n, F) else if k = 2 then ((false, [n], [n]), n + 1, F) else ((false, [], []), n, F)
    | [a] => if k = 5 then ((true, (pt a n F).1.2.1, (pt a n F).1.2.2), (pt a n F).2.1, linkF (pt a n F).2.2 (pt a n F).1.2.2 (pt a n F).1.2.1) else ((false, [], []), n, F)
    | [a, b] =>
      if k = 4 then (((pt a n F).1.1 || (pt b (pt a n F).2.1 (pt a n F).2.2).1.1, (pt a n F).1.2.1 ++ (pt b (pt a n F).2.1 (pt a n F).2.2).1.2.1, (pt a n F).1.2.2 ++ (pt b (pt a n F).2.1 (pt a n F).2.2).1.2.2), (pt b (pt a n F).2.1 (pt a n F).2.2).2.1, (pt b (pt a n F).2.1 (pt a n F).2.2).2.2)
      else if k = 3 then (((pt a n F).1.1 && (pt b (pt a n F).2.1 (pt a n F).2.2).1.1,
          (if (pt a n F).1.1 = true then (pt a n F).1.2.1 ++ (pt b (pt a n F).2.1 (pt a n F).2.2).1.2.1 else (pt a n F).1.2.1),
          (if (pt b (pt a n F).2.1 (pt a n F).2.2).1.1 = true then (pt b (pt a n F).2.1 (pt a n F).2.2).1.2.2 ++ (pt a n F).1.2.2 else (pt b (pt a n F).2.1 (pt a n F).2.2).1.2.2)),
          (pt b (pt a n F).2.1 (pt a n F).2.2).2.1, linkF (pt b (pt a n F).2.1 (pt a n F).2.2).2.2 (pt a n F).1.2.2 (pt b (pt a n F).2.1 (pt a n F).2.2).1.2.1)
      else ((false, [], []), n, F)
    | _ => ((false, [], []), n, F)
mutual
/-- the sets of an expression, from left to right -/
def sts : RE → List (List Pc)
  | .mk k s l => if k = 2 then s :: stsL l else stsL l
def stsL : List RE → List (List Pc)
  | [] => []
  | e :: l => sts e ++ stsL l
end
theorem sts_mk (k : Int) (s : List Pc) (l : List RE) : sts (.mk k s l) = if k = 2 then s :: stsL l else stsL l := by rw [sts]
theorem stsL_nil : stsL [] = [] := by rw [stsL]
theorem stsL_cons (e : RE) (l : List RE) : stsL (e :: l) = sts e ++ stsL l := by rw [stsL]
/-- the kinds of a node that has what its kind has -/
theorem prt_cases {k : Int} {s : List Pc} {l : List RE} (h : (RE.mk k s l).prt = true) :
    (k = 0 ∧ l = []) ∨ (k = 1 ∧ l = []) ∨ (k = 2 ∧ l = [] ∧ mayB s = true ∧ s.length ≤ 20) ∨ (k = 5 ∧ ∃ a, l = [a] ∧ a.prt = true) ∨ ((k = 3 ∨ k = 4) ∧ ∃ a b, l = [a, b] ∧ a.prt = true ∧ b.prt = true) := by
  rw [RE.prt_eq, Bool.and_eq_true] at h
  obtain ⟨h1, h2⟩ := h
  have hs0 : RE.shp (.mk k s l) = (if k = 2 then decide (1 ≤ s.length) && (decide (s.length ≤ 20) && (mayB s && decide (l.length = 0))) else if 0 < s.length then false else if k = 0 ∨ k = 1 then decide (l.length = 0) else if k = 5 then decide (l.length = 1) else if k = 3 ∨ k = 4 then decide (l.length = 2) else false) := rfl
  rw [hs0] at h1
  change RE.prtL l = true at h2
  by_cases k2 : k = 2
  · rw [if_pos k2] at h1
    simp only [Bool.and_eq_true, decide_eq_true_eq] at h1
    exact .inr (.inr (.inl ⟨k2, List.eq_nil_of_length_eq_zero h1.2.2.2, h1.2.2.1, h1.2.1⟩))
  rw [if_neg k2] at h1
  by_cases hs : 0 < s.length
  · rw [if_pos hs] at h1; cases h1
  rw [if_neg hs] at h1
  by_cases k01 : k = 0 ∨ k = 1
  · rw [if_pos k01] at h1
    have hl := List.eq_nil_of_length_eq_zero (of_decide_eq_true h1)
    rcases k01 with e | e
    · exact .inl ⟨e, hl⟩
    · exact .inr (.inl ⟨e, hl⟩)
  rw [if_neg k01] at h1
  by_cases k5 : k = 5
  · rw [if_pos k5] at h1
    obtain ⟨a, rfl⟩ := List.length_eq_one_iff.1 (of_decide_eq_true h1)
    rw [RE.prtL_cons, Bool.and_eq_true] at h2
    exact .inr (.inr (.inr (.inl ⟨k5, a, rfl, h2.1⟩)))
  rw [if_neg k5] at h1
  by_cases k34 : k = 3 ∨ k = 4
  · rw [if_pos k34] at h1
    have hl2 : l.length = 2 := of_decide_eq_true h1
    obtain ⟨a, b, rfl⟩ : ∃ a b, l = [a, b] := by
      rcases l with _ | ⟨a, _ | ⟨b, _ | ⟨c, l⟩⟩⟩
      · simp at hl2
      · simp at hl2
      · exact ⟨a, b, rfl⟩
      · simp at hl2
    rw [RE.prtL_cons, RE.prtL_cons, Bool.and_eq_true, Bool.and_eq_true] at h2
    exact .inr (.inr (.inr (.inr ⟨k34, a, b, rfl, h2.1, h2.2.1⟩)))
  · rw [if_neg k34] at h1; cases h1
theorem sts_size : ∀ (N : Nat) (e : RE), e.size ≤ N → e.prt = true → (sts e).length ≤ e.size := by
  intro N
  induction N with
  | zero => intro e h; have := e.size_pos; omega
  | succ N ih =>
    intro e h hp
    cases e with
    | mk k s l =>
      rw [RE.size_mk] at h ⊢
      rw [sts_mk]
      rcases prt_cases hp with ⟨rfl, rfl⟩ | ⟨rfl, rfl⟩ | ⟨rfl, rfl, _⟩ | ⟨rfl, a, rfl, ha⟩ | ⟨hk, a, b, rfl, ha, hb⟩
      · simp [stsL_nil]
      · simp [stsL_nil]
      · simp [stsL_nil, RE.sizes_nil]
      · rw [RE.sizes_cons, RE.sizes_nil] at h ⊢
        have := ih a (by omega) ha
        simp [stsL_cons, stsL_nil]; omega
      · rw [RE.sizes_cons, RE.sizes_cons, RE.sizes_nil] at h ⊢
        have h1 := ih a (by omega) ha
        have h2 := ih b (by omega) hb
        have : ¬ k = 2 := by omega
        simp [stsL_cons, stsL_nil, this]; omega
theorem linkF_mem (tq : List Int) (G : Int → Prop) (hto : ∀ x ∈ tq, G x) : ∀ (l : List Int) (F : List (List Int)), (∀ r ∈ F, ∀ x ∈ r, G x) → ∀ r ∈ linkF F l tq, ∀ x ∈ r, G x := by
  intro l
  induction l with
  | nil => intro F h; exact h
  | cons s l ih =>
    intro F h
    refine ih _ fun r hr => ?_
    rcases List.mem_or_eq_of_mem_set hr with hr | rfl
    · exact h r hr
    · intro x hx
      rw [List.mem_append] at hx
      rcases hx with hx | hx
      · rw [List.getD_eq_getElem?_getD] at hx
        cases e : F[s.toNat]? with
        | none => rw [e] at hx; simp at hx
        | some q => rw [e] at hx; exact h q (List.mem_of_getElem? e) x hx
      · exact hto x hx
/-- what is true of what a part is -/
structure PtOk (e : RE) (n : Int) (F : List (List Int)) (r : (Bool × List Int × List Int) × Int × List (List Int)) : Prop where
  nxt : r.2.1 = n + (sts e).length
  fst : ∀ x ∈ r.1.2.1, n ≤ x ∧ x < r.2.1
  lst : ∀ x ∈ r.1.2.2, n ≤ x ∧ x < r.2.1
  fl : r.1.2.1.length ≤ (sts e).length
  ll : r.1.2.2.length ≤ (sts e).length
  len : r.2.2.length = F.length
  row : ∀ L, (∀ q ∈ F, q.length ≤ L) → ∀ q ∈ r.2.2, q.length ≤ L + e.size * ((sts e).length * (sts e).length)
  mem : ∀ M : Int, r.2.1 ≤ M → (∀ q ∈ F, ∀ x ∈ q, 0 ≤ x ∧ x < M) → ∀ q ∈ r.2.2, ∀ x ∈ q, 0 ≤ x ∧ x < M
theorem pt_nil (k : Int) (s : List Pc) (n : Int) (F : List (List Int)) : pt (.mk k s []) n F = if k = 1 then ((true, [], []), n, F) else if k = 2 then ((false, [n], [n]), n + 1, F) else ((false, [], []), n, F) := by rw [pt]
theorem pt_star (s : List Pc) (a : RE) (n : Int) (F : List (List Int)) : pt (.mk 5 s [a]) n F = ((true, (pt a n F).1.2.1, (pt a n F).1.2.2), (pt a n F).2.1, linkF (pt a n F).2.2 (pt a n F).1.2.2 (pt a n F).1.2.1) := by rw [pt]; simp
theorem pt_alt (s : List Pc) (a b : RE) (n : Int) (F : List (List Int)) (x y : (Bool × List Int × List Int) × Int × List (List Int)) (hx : pt a n F = x) (hy : pt b x.2.1 x.2.2 = y) :
    pt (.mk 4 s [a, b]) n F = ((x.1.1 || y.1.1, x.1.2.1 ++ y.1.2.1, x.1.2.2 ++ y.1.2.2), y.2.1, y.2.2) := by rw [pt]; simp [hx, hy]
theorem pt_seq (s : List Pc) (a b : RE) (n : Int) (F : List (List Int)) (x y : (Bool × List Int × List Int) × Int × List (List Int)) (hx : pt a n F = x) (hy : pt b x.2.1 x.2.2 = y) :
    pt (.mk 3 s [a, b]) n F = ((x.1.1 && y.1.1, (if x.1.1 = true then x.1.2.1 ++ y.1.2.1 else x.1.2.1), (if y.1.1 = true then y.1.2.2 ++ x.1.2.2 else y.1.2.2)), y.2.1, linkF y.2.2 x.1.2.2 y.1.2.1) := by rw [pt]; simp [hx, hy]
theorem pt_ok : ∀ (N : Nat) (e : RE), e.size ≤ N → e.prt = true → ∀ (n : Int) (F : List (List Int)), 0 ≤ n → PtOk e n F (pt e n F) := by
  intro N
  induction N with
  | zero => intro e h; have := e.size_pos; omega
  | succ N ih =>
    intro e h hp n F hn
    cases e with
    | mk k s l =>
      rw [RE.size_mk] at h
      rcases prt_cases hp with ⟨rfl, rfl⟩ | ⟨rfl, rfl⟩ | ⟨rfl, rfl, _⟩ | ⟨rfl, a, rfl, ha⟩ | ⟨hk, a, b, rfl, ha, hb⟩
      · rw [pt_nil]; simp only [show ¬ (0 : Int) = 1 by omega, show ¬ (0 : Int) = 2 by omega, if_false]
        exact ⟨by simp [sts_mk, stsL_nil], by simp, by simp, by simp, by simp, rfl, fun L h q hq => by have := h q hq; omega, fun M _ h => h⟩
      · rw [pt_nil]; simp only [if_true]
        exact ⟨by simp [sts_mk, stsL_nil], by simp, by simp, by simp, by simp, rfl, fun L h q hq => by have := h q hq; omega, fun M _ h => h⟩
      · rw [pt_nil]; simp only [show ¬ (2 : Int) = 1 by omega, if_false, if_true]
        exact ⟨by simp [sts_mk, stsL_nil], fun x hx => by have := List.mem_singleton.1 hx; subst this; exact ⟨Int.le_refl _, by show x < x + 1; omega⟩, fun x hx => by have := List.mem_singleton.1 hx; subst this; exact ⟨Int.le_refl _, by show x < x + 1; omega⟩, by simp [sts_mk], by simp [sts_mk], rfl, fun L h q hq => by have := h q hq; omega, fun M _ h => h⟩
      · rw [RE.sizes_cons, RE.sizes_nil] at h
        have h1 := ih a (by omega) ha n F hn
        rw [pt_star]
        generalize pt a n F = x at h1
        have es : sts (.mk 5 s [a]) = sts a := by simp [sts_mk, stsL_cons, stsL_nil]
        refine ⟨by rw [es]; exact h1.nxt, h1.fst, h1.lst, by rw [es]; exact h1.fl, by rw [es]; exact h1.ll, by rw [linkF_len]; exact h1.len, fun L hL q hq => ?_, fun M hM hF => ?_⟩
        · have h2 := linkF_row x.1.2.1 _ x.1.2.2 x.2.2 (h1.row L hL) q hq
          rw [es, RE.size_mk, RE.sizes_cons, RE.sizes_nil, Nat.add_zero, Nat.succ_mul]
          have h3 : x.1.2.2.length * x.1.2.1.length ≤ (sts a).length * (sts a).length := Nat.mul_le_mul h1.ll h1.fl
          omega
        · exact linkF_mem _ (fun x => 0 ≤ x ∧ x < M) (fun y hy => by have := h1.fst y hy; simp only at hM; omega) _ _ (h1.mem M hM hF)
      · rw [RE.sizes_cons, RE.sizes_cons, RE.sizes_nil] at h
        have h1 := ih a (by omega) ha n F hn
        obtain ⟨x, hx⟩ : ∃ x, pt a n F = x := ⟨_, rfl⟩
        rw [hx] at h1
        have h2 := ih b (by omega) hb x.2.1 x.2.2 (by rw [h1.nxt]; omega)
        obtain ⟨y, hy⟩ : ∃ y, pt b x.2.1 x.2.2 = y := ⟨_, rfl⟩
        rw [hy] at h2
        have hn1 := h1.nxt
        have hn2 := h2.nxt
        have f1 := h1.fl
        have f2 := h2.fl
        have l1 := h1.ll
        have l2 := h2.ll
        have k2 : ¬ k = 2 := by omega
        have es : sts (.mk k s [a, b]) = sts a ++ sts b := by simp [sts_mk, stsL_cons, stsL_nil, k2]
        have hsz : (RE.mk k s [a, b]).size = a.size + b.size + 1 := by rw [RE.size_mk, RE.sizes_cons, RE.sizes_cons, RE.sizes_nil]; omega
        have hsq : ∀ (A B : Nat), A * A ≤ (A + B) * (A + B) ∧ B * B ≤ (A + B) * (A + B) ∧ A * B ≤ (A + B) * (A + B) := fun A B =>
          ⟨Nat.mul_le_mul (by omega) (by omega), Nat.mul_le_mul (by omega) (by omega), Nat.mul_le_mul (by omega) (by omega)⟩
        obtain ⟨q1, q2, q3⟩ := hsq (sts a).length (sts b).length
        have hrow : ∀ L, (∀ q ∈ F, q.length ≤ L) → ∀ q ∈ y.2.2, q.length ≤ L + (a.size + b.size) * (((sts a).length + (sts b).length) * ((sts a).length + (sts b).length)) := fun L hL q hq => by
          have := h2.row _ (h1.row L hL) q hq
          have e1 := Nat.mul_le_mul_left a.size q1
          have e2 := Nat.mul_le_mul_left b.size q2
          rw [Nat.add_mul]
          omega
        rcases hk with rfl | rfl
        · rw [pt_seq s a b n F x y hx hy]
          refine ⟨by rw [es]; simp; omega, fun z hz0 => ?_, fun z hz0 => ?_, ?_, ?_, by rw [linkF_len]; rw [h2.len, h1.len], fun L hL q hq => ?_, fun M hM hF => ?_⟩
          · have hz : z ∈ (if x.1.1 = true then x.1.2.1 ++ y.1.2.1 else x.1.2.1) := hz0
            split at hz
            · rw [List.mem_append] at hz
              rcases hz with hz | hz
              · have := h1.fst z hz; refine ⟨?_, ?_⟩ <;> (try dsimp only) <;> omega
              · have := h2.fst z hz; refine ⟨?_, ?_⟩ <;> (try dsimp only) <;> omega
            · have := h1.fst z hz; refine ⟨?_, ?_⟩ <;> (try dsimp only) <;> omega
          · have hz : z ∈ (if y.1.1 = true then y.1.2.2 ++ x.1.2.2 else y.1.2.2) := hz0
            split at hz
            · rw [List.mem_append] at hz
              rcases hz with hz | hz
              · have := h2.lst z hz; refine ⟨?_, ?_⟩ <;> (try dsimp only) <;> omega
              · have := h1.lst z hz; refine ⟨?_, ?_⟩ <;> (try dsimp only) <;> omega
            · have := h2.lst z hz; refine ⟨?_, ?_⟩ <;> (try dsimp only) <;> omega
          · rw [es, List.length_append]; show (if x.1.1 = true then _ else _ : List Int).length ≤ _; split
            · rw [List.length_append]; omega
            · omega
          · rw [es, List.length_append]; show (if y.1.1 = true then _ else _ : List Int).length ≤ _; split
            · rw [List.length_append]; omega
            · omega
          · have h3 := linkF_row y.1.2.1 _ x.1.2.2 y.2.2 (hrow L hL) q hq
            rw [es, hsz, List.length_append, Nat.succ_mul]
            have h4 : x.1.2.2.length * y.1.2.1.length ≤ (sts a).length * (sts b).length := Nat.mul_le_mul l1 f2
            omega
          · simp only at hM
            exact linkF_mem _ (fun x => 0 ≤ x ∧ x < M) (fun z hz => by have := h2.fst z hz; omega) _ _ (h2.mem M hM (h1.mem M (by omega) hF))
        · rw [pt_alt s a b n F x y hx hy]
          refine ⟨by rw [es]; simp; omega, fun z hz => ?_, fun z hz => ?_, ?_, ?_, by rw [h2.len, h1.len], fun L hL q hq => ?_, fun M hM hF => ?_⟩
          · rw [List.mem_append] at hz
            rcases hz with hz | hz
            · have := h1.fst z hz; refine ⟨?_, ?_⟩ <;> (try dsimp only) <;> omega
            · have := h2.fst z hz; refine ⟨?_, ?_⟩ <;> (try dsimp only) <;> omega
          · rw [List.mem_append] at hz
            rcases hz with hz | hz
            · have := h1.lst z hz; refine ⟨?_, ?_⟩ <;> (try dsimp only) <;> omega
            · have := h2.lst z hz; refine ⟨?_, ?_⟩ <;> (try dsimp only) <;> omega
          · rw [es, List.length_append, List.length_append]; omega
          · rw [es, List.length_append, List.length_append]; omega
          · have h3 := hrow L hL q hq
            rw [es, hsz, List.length_append, Nat.succ_mul]
            omega
          · simp only at hM
            exact h2.mem M hM (h1.mem M (by omega) hF)
end Nf
end Go.Proofs.YtmgfpcblbbpahaaGreat
