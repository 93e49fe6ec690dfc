/- runes: RunesForms. -/
import Derived.Test.YtjhfncmeiaogaaaRuneLaw2
set_option linter.unusedVariables false
set_option linter.unusedSimpArgs false
namespace Go.Proofs.Ytjhfncmeiaogaaa
open Go.RowKit Ru

set_option maxHeartbeats 20000000 in
set_option maxRecDepth 1000000 in
theorem runesForms_walk (a : List Pc) (va : Value) (b : List Pc) (vb : Value) (w : World) (ha : Row w va a.length (flatK .i32 a)) (za : i32s a) (hb : Row w vb b.length (flatK .i32 b)) (zb : i32s b) :
    Calls Try.prog 12 #[va, vb] w fun e w' => e = .returned (.bool true) ∧ Below w.heap.size w w' := by
  have Ha := Lib.hid ha
  have Hb := Lib.hid hb
  obtain ⟨oa, ca, rfl⟩ := ha.form
  obtain ⟨ob, cb, rfl⟩ := hb.form
  clear ha hb
  go_enter Try.func12, Try.ntmps12
  rcases Nat.lt_or_ge 30 a.length with hla | hla
  · have d1 : decide (a.length ≤ 30) = false := by simpa using hla
    go_wp2_with (first
      | (go_at_call_of 26 (Value.slice oa a.length ca); refine (few_any _ _ _ _ Ha.out).mono ?_; rintro e w' ⟨rfl, rfl⟩)
      | (go_at_call 27; refine (told5_any _).mono ?_; rintro e w2 ⟨rfl, hb⟩))
    go_ret
    exact ⟨rfl, hb⟩
  rcases Nat.lt_or_ge 30 b.length with hlb | hlb
  · have d1 : decide (a.length ≤ 30) = true := by simpa using hla
    have d2 : decide (b.length ≤ 30) = false := by simpa using hlb
    go_wp2_with (first
      | (go_at_call_of 26 (Value.slice oa a.length ca); refine (few_any _ _ _ _ Ha.out).mono ?_; rintro e w' ⟨rfl, rfl⟩)
      | (go_at_call 26; refine (few_any _ _ _ _ Hb.out).mono ?_; rintro e w' ⟨rfl, rfl⟩)
      | (go_at_call 27; refine (told5_any _).mono ?_; rintro e w2 ⟨rfl, hb⟩))
    go_ret
    exact ⟨rfl, hb⟩
  have d1 : decide (a.length ≤ 30) = true := by simpa using hla
  have d2 : decide (b.length ≤ 30) = true := by simpa using hlb
  go_upto_region 3 with (first
      | (go_at_call_of 26 (Value.slice oa a.length ca); refine (few_any _ _ _ _ Ha.out).mono ?_; rintro e w' ⟨rfl, rfl⟩)
      | (go_at_call 26; refine (few_any _ _ _ _ Hb.out).mono ?_; rintro e w' ⟨rfl, rfl⟩))
  have l1 := nrm_le a
  have l2 := nrm_le (a ++ b)
  rw [List.length_append] at l2
  have l3 := nt_le (orF (nt a) (nt b))
  have l4 := nt_le a
  have l5 := nt_le b
  have l6 := nrm_le (nt a ++ nt b)
  rw [List.length_append] at l6
  have l7 := nt_le (orF a b)
  obtain ⟨N, hN⟩ : ∃ N, N = nrm a := ⟨_, rfl⟩
  obtain ⟨O, hO⟩ : ∃ N, N = orF a b := ⟨_, rfl⟩
  obtain ⟨M, hM⟩ : ∃ N, N = andF a b := ⟨_, rfl⟩
  obtain ⟨K, hK⟩ : ∃ N, N = nt a := ⟨_, rfl⟩
  obtain ⟨Q, hQ⟩ : ∃ N, N = nt O := ⟨_, rfl⟩
  obtain ⟨B, hB⟩ : ∃ N, N = nt b := ⟨_, rfl⟩
  have m1 : N.length ≤ 1000 := by rw [hN]; omega
  have m2 : O.length ≤ 1000 := by rw [hO]; unfold orF; omega
  have m3 : M.length ≤ 1000 := by rw [hM]; unfold andF orF at *; omega
  have m4 : K.length ≤ 1000 := by rw [hK]; omega
  have m5 : Q.length ≤ 1000 := by rw [hQ, hO]; unfold orF at *; omega
  have m6 : B.length ≤ 1000 := by rw [hB]; omega
  have z1 : i32s N := by rw [hN]; exact i32_nrm _
  have z2 : i32s O := by rw [hO]; exact i32_nrm _
  have z3 : i32s M := by rw [hM]; exact i32_nt _
  have z4 : i32s K := by rw [hK]; exact i32_nt _
  have z5 : i32s Q := by rw [hQ]; exact i32_nt _
  have z6 : i32s B := by rw [hB]; exact i32_nt _
  have f1 : nrm N = N := by rw [hN]; exact nrm_norm a
  have f2 : orF b a = O := by rw [hO]; exact or_comm' b a
  have f3 : andF K B = Q := by rw [hK, hB, hQ, hO]; exact (nt_or a b).symm
  have f4 : nt K = N := by rw [hK, hN]; exact nt_nt a
  have g1 : mayB N = true := may_of f1
  have g2 : mayB O = true := may_of (by rw [hO]; exact nrm_norm _)
  have g3 : mayB M = true := may_of (by rw [hM]; exact nt_norm _)
  have g4 : mayB K = true := may_of (by rw [hK]; exact nt_norm _)
  obtain ⟨cA, hcA⟩ : ∃ c, c = cntF a := ⟨_, rfl⟩
  obtain ⟨cB, hcB⟩ : ∃ c, c = cntF b := ⟨_, rfl⟩
  obtain ⟨cO, hcO⟩ : ∃ c, c = cntF O := ⟨_, rfl⟩
  obtain ⟨cM, hcM⟩ : ∃ c, c = cntF M := ⟨_, rfl⟩
  obtain ⟨cN, hcN⟩ : ∃ c, c = cntF N := ⟨_, rfl⟩
  obtain ⟨cK, hcK⟩ : ∃ c, c = cntF K := ⟨_, rfl⟩
  have b1 := cntF_le a
  have b2 := cntF_le b
  have b3 := cntF_le O
  have b4 := cntF_le M
  have b5 := cntF_le N
  have b6 := cntF_le K
  have s1 : cO + cM = cA + cB := by rw [hcO, hcM, hcA, hcB, hO, hM]; exact cntF_or_and a b
  have s2 : cN + cK = 1112064 := by rw [hcN, hcK, hN, hK]; exact cntF_not a
  rw [← hcA] at b1
  rw [← hcB] at b2
  rw [← hcO] at b3
  rw [← hcM] at b4
  rw [← hcN] at b5
  rw [← hcK] at b6
  obtain ⟨b10, b11⟩ := b1
  obtain ⟨b20, b21⟩ := b2
  obtain ⟨b30, b31⟩ := b3
  obtain ⟨b40, b41⟩ := b4
  obtain ⟨b50, b51⟩ := b5
  obtain ⟨b60, b61⟩ := b6
  have HN := Lib.hid (And.intro hN (And.intro hO (And.intro hM (And.intro hK (And.intro hQ hB)))))
  have HF := Lib.hid (And.intro f1 (And.intro f2 (And.intro f3 f4)))
  have HM := Lib.hid (And.intro g1 (And.intro g2 (And.intro g3 g4)))
  have HC := Lib.hid (And.intro hcA (And.intro hcB (And.intro hcO (And.intro hcM (And.intro hcN hcK)))))
  clear hN hO hM hK hQ hB f1 f2 f3 f4 g1 g2 g3 g4 hcA hcB hcO hcM hcN hcK l1 l2 l3 l4 l5 l6 l7 d1 d2
  go_wp2_with (first
      | (go_at_call 27; refine (told5_any _).mono ?_; rintro e w2 ⟨rfl, hb⟩)
      | (go_at_call 31; refine (norm_any _ _ _ (by first | exact Ha.out.below (by repeat (first | exact Below.refl _ _ | assumption | (refine Below.drew ?_) | (refine below_drewN ?_ _) | (refine bel_new ?_ _) | (refine bel_then ?_ (by assumption)))) | exact Hb.out.below (by repeat (first | exact Below.refl _ _ | assumption | (refine Below.drew ?_) | (refine below_drewN ?_ _) | (refine bel_new ?_ _) | (refine bel_then ?_ (by assumption)))) | exact (Row.owned (by assumption)).below (by repeat (first | exact Below.refl _ _ | assumption | (refine Below.drew ?_) | (refine below_drewN ?_ _) | (refine bel_new ?_ _) | (refine bel_then ?_ (by assumption))))) (by assumption) (by omega)).mono ?_; rintro e w2 ⟨u2, rfl, hown, hb⟩; (first | rw [← HN.out.1] at hown | rw [HF.out.1] at hown); obtain ⟨o2, c2, rfl⟩ := owns_slice hown)
      | (go_at_call 35; refine (or_any _ _ _ _ _ (by first | exact Ha.out.below (by repeat (first | exact Below.refl _ _ | assumption | (refine Below.drew ?_) | (refine below_drewN ?_ _) | (refine bel_new ?_ _) | (refine bel_then ?_ (by assumption)))) | exact Hb.out.below (by repeat (first | exact Below.refl _ _ | assumption | (refine Below.drew ?_) | (refine below_drewN ?_ _) | (refine bel_new ?_ _) | (refine bel_then ?_ (by assumption)))) | exact (Row.owned (by assumption)).below (by repeat (first | exact Below.refl _ _ | assumption | (refine Below.drew ?_) | (refine below_drewN ?_ _) | (refine bel_new ?_ _) | (refine bel_then ?_ (by assumption))))) (by first | exact Ha.out.below (by repeat (first | exact Below.refl _ _ | assumption | (refine Below.drew ?_) | (refine below_drewN ?_ _) | (refine bel_new ?_ _) | (refine bel_then ?_ (by assumption)))) | exact Hb.out.below (by repeat (first | exact Below.refl _ _ | assumption | (refine Below.drew ?_) | (refine below_drewN ?_ _) | (refine bel_new ?_ _) | (refine bel_then ?_ (by assumption)))) | exact (Row.owned (by assumption)).below (by repeat (first | exact Below.refl _ _ | assumption | (refine Below.drew ?_) | (refine below_drewN ?_ _) | (refine bel_new ?_ _) | (refine bel_then ?_ (by assumption))))) (by assumption) (by assumption) (by omega) (by omega)).mono ?_; rintro e w2 ⟨u2, rfl, hown, hb⟩; (first | rw [← HN.out.2.1] at hown | rw [HF.out.2.1] at hown); obtain ⟨o2, c2, rfl⟩ := owns_slice hown)
      | (go_at_call 37; refine (and_any _ _ _ _ _ (by first | exact Ha.out.below (by repeat (first | exact Below.refl _ _ | assumption | (refine Below.drew ?_) | (refine below_drewN ?_ _) | (refine bel_new ?_ _) | (refine bel_then ?_ (by assumption)))) | exact Hb.out.below (by repeat (first | exact Below.refl _ _ | assumption | (refine Below.drew ?_) | (refine below_drewN ?_ _) | (refine bel_new ?_ _) | (refine bel_then ?_ (by assumption)))) | exact (Row.owned (by assumption)).below (by repeat (first | exact Below.refl _ _ | assumption | (refine Below.drew ?_) | (refine below_drewN ?_ _) | (refine bel_new ?_ _) | (refine bel_then ?_ (by assumption))))) (by first | exact Ha.out.below (by repeat (first | exact Below.refl _ _ | assumption | (refine Below.drew ?_) | (refine below_drewN ?_ _) | (refine bel_new ?_ _) | (refine bel_then ?_ (by assumption)))) | exact Hb.out.below (by repeat (first | exact Below.refl _ _ | assumption | (refine Below.drew ?_) | (refine below_drewN ?_ _) | (refine bel_new ?_ _) | (refine bel_then ?_ (by assumption)))) | exact (Row.owned (by assumption)).below (by repeat (first | exact Below.refl _ _ | assumption | (refine Below.drew ?_) | (refine below_drewN ?_ _) | (refine bel_new ?_ _) | (refine bel_then ?_ (by assumption))))) (by assumption) (by assumption) (by omega) (by omega)).mono ?_; rintro e w2 ⟨u2, rfl, hown, hb⟩; (first | rw [← HN.out.2.2.1] at hown | rw [HF.out.2.2.1] at hown); obtain ⟨o2, c2, rfl⟩ := owns_slice hown)
      | (go_at_call 39; refine (not_any _ _ _ (by first | exact Ha.out.below (by repeat (first | exact Below.refl _ _ | assumption | (refine Below.drew ?_) | (refine below_drewN ?_ _) | (refine bel_new ?_ _) | (refine bel_then ?_ (by assumption)))) | exact Hb.out.below (by repeat (first | exact Below.refl _ _ | assumption | (refine Below.drew ?_) | (refine below_drewN ?_ _) | (refine bel_new ?_ _) | (refine bel_then ?_ (by assumption)))) | exact (Row.owned (by assumption)).below (by repeat (first | exact Below.refl _ _ | assumption | (refine Below.drew ?_) | (refine below_drewN ?_ _) | (refine bel_new ?_ _) | (refine bel_then ?_ (by assumption))))) (by assumption) (by omega)).mono ?_; rintro e w2 ⟨u2, rfl, hown, hb⟩; (first | rw [← HN.out.2.2.2.1] at hown | rw [← HN.out.2.2.2.2.1] at hown | rw [← HN.out.2.2.2.2.2] at hown | rw [HF.out.2.2.2] at hown); obtain ⟨o2, c2, rfl⟩ := owns_slice hown)
      | (go_at_call 28; refine (mayR_any _ _ _ (by first | exact Ha.out.below (by repeat (first | exact Below.refl _ _ | assumption | (refine Below.drew ?_) | (refine below_drewN ?_ _) | (refine bel_new ?_ _) | (refine bel_then ?_ (by assumption)))) | exact Hb.out.below (by repeat (first | exact Below.refl _ _ | assumption | (refine Below.drew ?_) | (refine below_drewN ?_ _) | (refine bel_new ?_ _) | (refine bel_then ?_ (by assumption)))) | exact (Row.owned (by assumption)).below (by repeat (first | exact Below.refl _ _ | assumption | (refine Below.drew ?_) | (refine below_drewN ?_ _) | (refine bel_new ?_ _) | (refine bel_then ?_ (by assumption))))) (by assumption) (by omega)).mono ?_; rintro e w2 ⟨rfl, hb⟩; (first | rw [HM.out.1] | rw [HM.out.2.1] | rw [HM.out.2.2.1] | rw [HM.out.2.2.2]))
      | (go_at_call 41; refine (count_any _ _ _ (by first | exact Ha.out.below (by repeat (first | exact Below.refl _ _ | assumption | (refine Below.drew ?_) | (refine below_drewN ?_ _) | (refine bel_new ?_ _) | (refine bel_then ?_ (by assumption)))) | exact Hb.out.below (by repeat (first | exact Below.refl _ _ | assumption | (refine Below.drew ?_) | (refine below_drewN ?_ _) | (refine bel_new ?_ _) | (refine bel_then ?_ (by assumption)))) | exact (Row.owned (by assumption)).below (by repeat (first | exact Below.refl _ _ | assumption | (refine Below.drew ?_) | (refine below_drewN ?_ _) | (refine bel_new ?_ _) | (refine bel_then ?_ (by assumption))))) (by assumption) (by omega)).mono ?_; rintro e w2 ⟨rfl, hb⟩; (first | rw [← HC.out.1] | rw [← HC.out.2.1] | rw [← HC.out.2.2.1] | rw [← HC.out.2.2.2.1] | rw [← HC.out.2.2.2.2.1] | rw [← HC.out.2.2.2.2.2]))
      | (go_at_call 43; refine (same_any _ _ _ _ _ (by first | exact Ha.out.below (by repeat (first | exact Below.refl _ _ | assumption | (refine Below.drew ?_) | (refine below_drewN ?_ _) | (refine bel_new ?_ _) | (refine bel_then ?_ (by assumption)))) | exact Hb.out.below (by repeat (first | exact Below.refl _ _ | assumption | (refine Below.drew ?_) | (refine below_drewN ?_ _) | (refine bel_new ?_ _) | (refine bel_then ?_ (by assumption)))) | exact (Row.owned (by assumption)).below (by repeat (first | exact Below.refl _ _ | assumption | (refine Below.drew ?_) | (refine below_drewN ?_ _) | (refine bel_new ?_ _) | (refine bel_then ?_ (by assumption))))) (by first | exact Ha.out.below (by repeat (first | exact Below.refl _ _ | assumption | (refine Below.drew ?_) | (refine below_drewN ?_ _) | (refine bel_new ?_ _) | (refine bel_then ?_ (by assumption)))) | exact Hb.out.below (by repeat (first | exact Below.refl _ _ | assumption | (refine Below.drew ?_) | (refine below_drewN ?_ _) | (refine bel_new ?_ _) | (refine bel_then ?_ (by assumption)))) | exact (Row.owned (by assumption)).below (by repeat (first | exact Below.refl _ _ | assumption | (refine Below.drew ?_) | (refine below_drewN ?_ _) | (refine bel_new ?_ _) | (refine bel_then ?_ (by assumption))))) (by omega) (by omega)).mono ?_; rintro e w2 ⟨rfl, hb⟩))
  go_ret
  exact ⟨by simp, by repeat (first | exact Below.refl _ _ | assumption | (refine Below.drew ?_) | (refine below_drewN ?_ _) | (refine bel_new ?_ _) | (refine bel_then ?_ (by assumption)))⟩
end Go.Proofs.Ytjhfncmeiaogaaa
