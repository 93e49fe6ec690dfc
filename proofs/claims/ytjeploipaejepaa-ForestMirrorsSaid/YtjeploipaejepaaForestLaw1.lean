/- The walk of ForestAsks. -/
import Derived.Test.YtjeploipaejepaaForestTold
import Derived.Test.YtjeploipaejepaaIntsSame
set_option linter.unusedVariables false
set_option linter.unusedSimpArgs false
namespace Go.Proofs.Ytjeploipaejepaa
open Go.RowKit Fo

def prsInts (l : List (Int × Int)) : List Int := (List.range l.length).map fun j => prs (kns l) l.length j
theorem prsInts_len (l : List (Int × Int)) : (prsInts l).length = l.length := by simp [prsInts]
theorem prsRow_ints (l : List (Int × Int)) : prsRow l = (prsInts l).map (Value.int .i64) := by simp [prsRow, prsInts]

set_option maxHeartbeats 2000000 in
set_option maxRecDepth 1000000 in
theorem forestAsks_walk (l : List (Int × Int)) (v : Value) (w : World) (hr : Syms w v l) :
    Calls Try.prog 8 #[v] w fun e w' => e = .returned (.bool true) ∧ Below w.heap.size w w' := by
  obtain ⟨ov, cv, rfl⟩ := hr.slice
  by_cases hl : 60 < l.length
  · have hm := hr.le
    go_enter Try.func8, Try.ntmps8
    go_wp2_with (go_at_call 25; refine (told15_any _).mono ?_; rintro e w1 ⟨rfl, hb1⟩)
    go_ret
    exact ⟨rfl, by repeat (first | exact Below.refl _ _ | assumption | (refine Below.drew ?_) | (refine below_drewN ?_ _) | (refine bel_new ?_ _) | (refine bel_then ?_ (by assumption)))⟩
  have hn : l.length ≤ 100000 := by omega
  have hpl := prsInts_len l
  have hpr := prsRow_ints l
  have ha1 : (alone l 1).length ≤ 60 := by rw [alone_len]; have := alo_le (kns l) 1 l.length l.length; omega
  have ha2 : (alone l 2).length ≤ 60 := by rw [alone_len]; have := alo_le (kns l) 2 l.length l.length; omega
  have HP := Lib.hid (And.intro hpl (And.intro hpr (And.intro ha1 (And.intro ha2 (show l.length ≤ 60 by omega)))))
  have hmx := hr.le
  clear hpl hpr ha1 ha2
  obtain ⟨m, hm⟩ : ∃ m, m = mayB l := ⟨_, rfl⟩
  obtain ⟨wl, hwl⟩ : ∃ m, m = wellB l := ⟨_, rfl⟩
  obtain ⟨dd, hdd⟩ : ∃ m, m = dp (kns l) l.length := ⟨_, rfl⟩
  have HM := Lib.hid (And.intro hm (And.intro hwl hdd))
  clear hm hwl hdd
  go_enter Try.func8, Try.ntmps8
  go_wp2_with fail
  refine (told15_any _).mono ?_
  rintro e w1 ⟨rfl, hb1⟩
  have hB1 : Below w.heap.size w w1 := hb1
  clear hb1
  go_wp2_with fail
  refine (may_any l _ _ (hr.below hB1) hn).mono ?_
  rintro e w2 ⟨rfl, hb2⟩
  rw [← HM.out.1]
  have hB2 : Below w.heap.size w w2 := bel_then hB1 hb2
  clear hb2 hB1
  go_wp2_with fail
  refine (maySyms_any l _ _ (hr.below hB2) hn).mono ?_
  rintro e w3 ⟨rfl, hb3⟩
  rw [← HM.out.1]
  have hB3 : Below w.heap.size w w3 := bel_then hB2 hb3
  clear hb3 hB2
  go_wp2_with fail
  refine (pairs_any l _ _ (hr.below hB3) hn).mono ?_
  rintro e w4 ⟨u4, rfl, hown4, hb4⟩
  rw [HP.out.2.1, ← HP.out.1] at hown4
  have hB4 : Below w.heap.size w w4 := bel_then hB3 hb4
  clear hb4 hB3
  go_wp2_with fail
  refine (refPairs_any l _ _ (hr.below hB4) hn).mono ?_
  rintro e w5 ⟨u5, rfl, hown5, hb5⟩
  rw [HP.out.2.1, ← HP.out.1] at hown5
  have hB5 : Below w.heap.size w w5 := bel_then hB4 hb5
  have hown4' := owns_below hown4 hb5
  clear hb5 hB4 hown4
  go_wp2_with fail
  refine (ints_same (prsInts l) _ _ _ (Row.owned hown4') (Row.owned hown5) (by have := HP.out.1; omega)).mono ?_
  rintro e w6 ⟨rfl, hb6⟩
  have hB6 : Below w.heap.size w w6 := bel_then hB5 hb6
  clear hb6 hB5 hown4' hown5
  go_wp2_with fail
  refine (open_any l _ _ (hr.below hB6) hn).mono ?_
  rintro e w7 ⟨u7, rfl, hown7, hb7⟩
  have hB7 : Below w.heap.size w w7 := bel_then hB6 hb7
  clear hb7 hB6
  go_wp2_with fail
  refine (refOpen_any l _ _ (hr.below hB7) hn).mono ?_
  rintro e w8 ⟨u8, rfl, hown8, hb8⟩
  have hB8 : Below w.heap.size w w8 := bel_then hB7 hb8
  have hown7' := owns_below hown7 hb8
  clear hb8 hB7 hown7
  go_wp2_with fail
  refine (ints_same (alone l 1) _ _ _ (Row.owned hown7') (Row.owned hown8) (by have := HP.out.2.2.1; omega)).mono ?_
  rintro e w9 ⟨rfl, hb9⟩
  have hB9 : Below w.heap.size w w9 := bel_then hB8 hb9
  clear hb9 hB8 hown7' hown8
  go_wp2_with fail
  refine (lost_any l _ _ (hr.below hB9) hn).mono ?_
  rintro e w10 ⟨u10, rfl, hown10, hb10⟩
  have hB10 : Below w.heap.size w w10 := bel_then hB9 hb10
  clear hb10 hB9
  go_wp2_with fail
  refine (refLost_any l _ _ (hr.below hB10) hn).mono ?_
  rintro e w11 ⟨u11, rfl, hown11, hb11⟩
  have hB11 : Below w.heap.size w w11 := bel_then hB10 hb11
  have hown10' := owns_below hown10 hb11
  clear hb11 hB10 hown10
  go_wp2_with fail
  refine (ints_same (alone l 2) _ _ _ (Row.owned hown10') (Row.owned hown11) (by have := HP.out.2.2.2.1; omega)).mono ?_
  rintro e w12 ⟨rfl, hb12⟩
  have hB12 : Below w.heap.size w w12 := bel_then hB11 hb12
  clear hb12 hB11 hown10' hown11
  go_wp2_with fail
  refine (well_any l _ _ (hr.below hB12) hn).mono ?_
  rintro e w13 ⟨rfl, hb13⟩
  rw [← HM.out.2.1]
  have hB13 : Below w.heap.size w w13 := bel_then hB12 hb13
  clear hb13 hB12
  go_wp2_with fail
  refine (refWell_any l _ _ (hr.below hB13) hn).mono ?_
  rintro e w14 ⟨rfl, hb14⟩
  rw [← HM.out.2.1]
  have hB14 : Below w.heap.size w w14 := bel_then hB13 hb14
  clear hb14 hB13
  go_wp2_with fail
  refine (deep_any l _ _ (hr.below hB14) hn).mono ?_
  rintro e w15 ⟨rfl, hb15⟩
  rw [← HM.out.2.2]
  have hB15 : Below w.heap.size w w15 := bel_then hB14 hb15
  clear hb15 hB14
  go_wp2_with fail
  refine (refDeep_any l _ _ (hr.below hB15) hn).mono ?_
  rintro e w16 ⟨rfl, hb16⟩
  rw [← HM.out.2.2]
  have hB16 : Below w.heap.size w w16 := bel_then hB15 hb16
  clear hb16 hB15
  go_wp2
  go_ret
  exact ⟨rfl, hB16⟩
end Go.Proofs.Ytjeploipaejepaa
