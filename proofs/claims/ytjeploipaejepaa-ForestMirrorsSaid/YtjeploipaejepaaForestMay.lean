/- May and the reference's MaySyms. -/
import Derived.Test.YtjeploipaejepaaForestRef3
set_option linter.unusedVariables false
set_option linter.unusedSimpArgs false
namespace Go.Proofs.Ytjeploipaejepaa
open Go.RowKit Fo

def okSym (p : Int × Int) : Bool := decide (-1 ≤ p.1) && decide (p.1 < 16) && decide (0 ≤ p.2) && decide (p.2 ≤ 2)
def mayB (l : List (Int × Int)) : Bool := l.all okSym
theorem okSym_iff (p : Int × Int) : okSym p = true ↔ -1 ≤ p.1 ∧ p.1 < 16 ∧ 0 ≤ p.2 ∧ p.2 ≤ 2 := by
  simp [okSym, and_assoc]
theorem mayB_true {l : List (Int × Int)} (h : ∀ j, j < l.length → -1 ≤ (tks l).getD j 0 ∧ (tks l).getD j 0 < 16 ∧ 0 ≤ (kns l).getD j 0 ∧ (kns l).getD j 0 ≤ 2) : mayB l = true := by
  unfold mayB
  rw [List.all_eq_true]
  intro p hp
  obtain ⟨j, hj, rfl⟩ := List.getElem_of_mem hp
  have := h j hj
  rw [okSym_iff]
  simpa [tks, kns, List.getD, hj] using this
theorem mayB_false {l : List (Int × Int)} (j : Nat) (hj : j < l.length) (h : ¬ (-1 ≤ (tks l).getD j 0 ∧ (tks l).getD j 0 < 16 ∧ 0 ≤ (kns l).getD j 0 ∧ (kns l).getD j 0 ≤ 2)) : mayB l = false := by
  cases e : mayB l with
  | false => rfl
  | true =>
    unfold mayB at e
    rw [List.all_eq_true] at e
    have := (okSym_iff _).1 (e (l[j]) (List.getElem_mem hj))
    exact absurd (by simpa [tks, kns, List.getD, hj] using this) h

set_option maxHeartbeats 1000000 in
set_option maxRecDepth 1000000 in
theorem maySyms_any (l : List (Int × Int)) (v : Value) (w : World) (hr : Syms w v l) (hn : l.length ≤ 100000) :
    Calls Try.prog 30 #[v] w fun e w' => e = .returned (.bool (mayB l)) ∧ Below w.heap.size w w' := by
  obtain ⟨o, cap, rfl, hcap, hmax, hrow⟩ := hr
  have Hr := Lib.hid hrow
  clear hrow
  go_enter Try.func30, Try.ntmps30
  go_wp2_with fail
  go_loopw [3] (fun i wr => ∃ k : Nat, k ≤ l.length ∧ i = .int .i64 k ∧ wr = w ∧ ∀ j, j < k → -1 ≤ (tks l).getD j 0 ∧ (tks l).getD j 0 < 16 ∧ 0 ≤ (kns l).getD j 0 ∧ (kns l).getD j 0 ≤ 2)
    (fun i _ => l.length - (intOf i).toNat)
  case atStart => exact ⟨0, Nat.zero_le _, rfl, rfl, fun j hj => by omega⟩
  case round =>
    obtain ⟨k, hk, rfl, rfl, hall⟩ := hrel
    have HA := Lib.hid hall
    clear hall
    by_cases hkl : k < l.length
    · rcases Hr.out with ⟨h0, _⟩ | ⟨bl, off, rfl, hlt, hcell⟩
      · omega
      obtain ⟨hc1, hc2⟩ := flat_get l k hkl
      have c1 := hcell _ _ hc1
      have c2 := hcell _ _ hc2
      rw [← Nat.add_assoc] at c2
      obtain ⟨tok, htok⟩ : ∃ x, x = (tks l).getD k 0 := ⟨_, rfl⟩
      obtain ⟨kind, hkind⟩ : ∃ x, x = (kns l).getD k 0 := ⟨_, rfl⟩
      rw [← htok] at c1
      rw [← hkind] at c2
      have hF := fun h => mayB_false k hkl h
      rw [← htok, ← hkind] at hF
      have HF := Lib.hid hF
      have HT := Lib.hid (And.intro htok hkind)
      clear hcell hc1 hc2 htok hkind hF
      by_cases h1 : tok < -1
      · go_wp2
        go_ret
        exact ⟨by rw [HF.out (by omega)]; rfl, by repeat (first | exact Below.refl _ _ | assumption | (refine Below.drew ?_) | (refine below_drewN ?_ _) | (refine bel_new ?_ _) | (refine bel_then ?_ (by assumption)))⟩
      by_cases h2 : 16 ≤ tok
      · go_wp2
        go_ret
        exact ⟨by rw [HF.out (by omega)]; rfl, by repeat (first | exact Below.refl _ _ | assumption | (refine Below.drew ?_) | (refine below_drewN ?_ _) | (refine bel_new ?_ _) | (refine bel_then ?_ (by assumption)))⟩
      by_cases h3 : kind < 0
      · go_wp2
        go_ret
        exact ⟨by rw [HF.out (by omega)]; rfl, by repeat (first | exact Below.refl _ _ | assumption | (refine Below.drew ?_) | (refine below_drewN ?_ _) | (refine bel_new ?_ _) | (refine bel_then ?_ (by assumption)))⟩
      by_cases h4 : 2 < kind
      · go_wp2
        go_ret
        exact ⟨by rw [HF.out (by omega)]; rfl, by repeat (first | exact Below.refl _ _ | assumption | (refine Below.drew ?_) | (refine below_drewN ?_ _) | (refine bel_new ?_ _) | (refine bel_then ?_ (by assumption)))⟩
      go_wp2
      go_roundw
      case rel =>
        refine ⟨k + 1, by omega, by go_num, trivial, fun j hj => ?_⟩
        by_cases e : j = k
        · subst e; rw [← HT.out.1, ← HT.out.2]; omega
        · exact HA.out j (by omega)
      case measure => simp [intOf] <;> omega
    · have hkn : k = l.length := by omega
      subst hkn
      go_wp2
      go_ret
      exact ⟨by rw [mayB_true HA.out]; rfl, by repeat (first | exact Below.refl _ _ | assumption | (refine Below.drew ?_) | (refine below_drewN ?_ _) | (refine bel_new ?_ _) | (refine bel_then ?_ (by assumption)))⟩

def badB (tok kind : Int) : Bool := !(decide (-1 ≤ tok) && decide (tok < 16) && decide (0 ≤ kind) && decide (kind ≤ 2))
theorem may1_any (tok kind : Int) (w : World) : Calls Try.prog 45 #[.agg #[.int .i64 tok, .int .i64 kind]] w fun e w' => e = .returned (.bool (badB tok kind)) ∧ Below w.heap.size w w' := by
  go_enter Try.func45, Try.ntmps45
  by_cases h1 : tok < -1
  · go_wp2
    go_ret
    exact ⟨by simp [badB]; omega, by repeat (first | exact Below.refl _ _ | assumption | (refine Below.drew ?_) | (refine below_drewN ?_ _) | (refine bel_new ?_ _) | (refine bel_then ?_ (by assumption)))⟩
  by_cases h2 : 16 ≤ tok
  · go_wp2
    go_ret
    exact ⟨by simp [badB]; omega, by repeat (first | exact Below.refl _ _ | assumption | (refine Below.drew ?_) | (refine below_drewN ?_ _) | (refine bel_new ?_ _) | (refine bel_then ?_ (by assumption)))⟩
  by_cases h3 : kind = 0
  · subst h3
    go_wp2
    go_ret
    exact ⟨by simp [badB]; omega, by repeat (first | exact Below.refl _ _ | assumption | (refine Below.drew ?_) | (refine below_drewN ?_ _) | (refine bel_new ?_ _) | (refine bel_then ?_ (by assumption)))⟩
  by_cases h4 : kind = 1
  · subst h4
    go_wp2
    go_ret
    exact ⟨by simp [badB]; omega, by repeat (first | exact Below.refl _ _ | assumption | (refine Below.drew ?_) | (refine below_drewN ?_ _) | (refine bel_new ?_ _) | (refine bel_then ?_ (by assumption)))⟩
  by_cases h5 : kind = 2
  · subst h5
    go_wp2
    go_ret
    exact ⟨by simp [badB]; omega, by repeat (first | exact Below.refl _ _ | assumption | (refine Below.drew ?_) | (refine below_drewN ?_ _) | (refine bel_new ?_ _) | (refine bel_then ?_ (by assumption)))⟩
  go_wp2
  go_ret
  exact ⟨by rw [show badB tok kind = true from by cases hb : badB tok kind with
    | true => rfl
    | false => simp [badB] at hb; omega]; simp [h3, h4, h5], by repeat (first | exact Below.refl _ _ | assumption | (refine Below.drew ?_) | (refine below_drewN ?_ _) | (refine bel_new ?_ _) | (refine bel_then ?_ (by assumption)))⟩

set_option maxHeartbeats 1000000 in
set_option maxRecDepth 1000000 in
theorem index1_any (l : List (Int × Int)) (v : Value) (w : World) (hr : Syms w v l) (hn : l.length ≤ 100000) :
    Calls Try.prog 53 #[v, .func (Fn.func 45) #[] #[]] w fun e w' =>
      ((mayB l = true ∧ e = .returned (.int .i64 (-1))) ∨ (mayB l = false ∧ ∃ k : Nat, k < l.length ∧ e = .returned (.int .i64 k))) ∧ Below w.heap.size w w' := by
  obtain ⟨o, cap, rfl, hcap, hmax, hrow⟩ := hr
  have Hr := Lib.hid hrow
  clear hrow
  go_enter Try.func53, Try.ntmps53
  go_wp2_with fail
  go_loopw [8] (fun i wr => ∃ k : Nat, k ≤ l.length ∧ i = .int .i64 k ∧ Below w.heap.size w wr ∧ ∀ j, j < k → -1 ≤ (tks l).getD j 0 ∧ (tks l).getD j 0 < 16 ∧ 0 ≤ (kns l).getD j 0 ∧ (kns l).getD j 0 ≤ 2)
    (fun i _ => l.length - (intOf i).toNat)
  case atStart => exact ⟨0, Nat.zero_le _, rfl, by repeat (first | exact Below.refl _ _ | assumption | (refine Below.drew ?_) | (refine below_drewN ?_ _) | (refine bel_new ?_ _) | (refine bel_then ?_ (by assumption))), fun j hj => by omega⟩
  case round =>
    obtain ⟨k, hk, rfl, hbel, hall⟩ := hrel
    have HA := Lib.hid hall
    clear hall
    by_cases hkl : k < l.length
    · rcases Hr.out with ⟨h0, _⟩ | ⟨bl, off, rfl, hlt, hcell⟩
      · omega
      obtain ⟨hc1, hc2⟩ := flat_get l k hkl
      have c1 := hcell _ _ hc1
      have c2 := hcell _ _ hc2
      rw [← hbel.cell hlt] at c1 c2
      rw [← Nat.add_assoc] at c2
      obtain ⟨tok, htok⟩ : ∃ x, x = (tks l).getD k 0 := ⟨_, rfl⟩
      obtain ⟨kind, hkind⟩ : ∃ x, x = (kns l).getD k 0 := ⟨_, rfl⟩
      rw [← htok] at c1
      rw [← hkind] at c2
      have hF := fun h => mayB_false k hkl h
      rw [← htok, ← hkind] at hF
      have HF := Lib.hid hF
      have HT := Lib.hid (And.intro htok hkind)
      clear hcell hc1 hc2 htok hkind hF
      go_wp2_with fail
      refine (may1_any tok kind _).mono ?_
      rintro e w1 ⟨rfl, hb1⟩
      have hB : Below w.heap.size w w1 := bel_then (by repeat (first | exact Below.refl _ _ | assumption | (refine Below.drew ?_) | (refine below_drewN ?_ _) | (refine bel_new ?_ _) | (refine bel_then ?_ (by assumption)))) hb1
      have HB := Lib.hid hB
      clear c1 c2 hB hb1 hbel
      by_cases h1 : -1 ≤ tok ∧ tok < 16 ∧ 0 ≤ kind ∧ kind ≤ 2
      · have e : badB tok kind = false := by simp [badB]; omega
        rw [e]
        have H1 := Lib.hid h1
        clear h1 e
        go_wp2
        go_roundw
        case rel =>
          refine ⟨k + 1, by omega, by go_num, HB.out, fun j hj => ?_⟩
          by_cases e : j = k
          · subst e; rw [← HT.out.1, ← HT.out.2]; exact H1.out
          · exact HA.out j (by omega)
        case measure => simp [intOf] <;> omega
      · have e : badB tok kind = true := by simp [badB]; omega
        rw [e]
        have H1 := Lib.hid h1
        clear h1 e
        go_wp2
        go_ret
        exact ⟨.inr ⟨HF.out H1.out, k, hkl, rfl⟩, HB.out⟩
    · have hkn : k = l.length := by omega
      subst hkn
      go_wp2
      go_ret
      exact ⟨.inl ⟨mayB_true HA.out, rfl⟩, hbel⟩

theorem may_any (l : List (Int × Int)) (v : Value) (w : World) (hr : Syms w v l) (hn : l.length ≤ 100000) :
    Calls Try.prog 29 #[v] w fun e w' => e = .returned (.bool (mayB l)) ∧ Below w.heap.size w w' := by
  have hx := fun (w : World) hr => index1_any l v w hr hn
  have hc : ∀ (w : World), Syms w v l → Calls Try.prog 46 #[v, .func (Fn.func 45) #[] #[]] w fun e w' => e = .returned (.bool (!mayB l)) ∧ Below w.heap.size w w' := by
    intro w hr
    go_enter Try.func46, Try.ntmps46
    go_wp2_with fail
    refine (hx _ hr).mono ?_
    rintro e w1 ⟨⟨hm, rfl⟩ | ⟨hm, k, hk, rfl⟩, hb1⟩
    · go_wp2
      go_ret
      exact ⟨by rw [hm]; rfl, hb1⟩
    · go_wp2
      go_ret
      exact ⟨by rw [hm]; simp, hb1⟩
  clear hx
  go_enter Try.func29, Try.ntmps29
  go_wp2_with fail
  refine (hc _ hr).mono ?_
  rintro e w1 ⟨rfl, hb1⟩
  go_wp2
  go_ret
  exact ⟨by simp, hb1⟩
end Go.Proofs.Ytjeploipaejepaa
