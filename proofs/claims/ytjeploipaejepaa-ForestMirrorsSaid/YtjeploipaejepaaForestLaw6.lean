/- The walk of ForestMirrors. -/
import Derived.Test.YtjeploipaejepaaForestLaw5
import Derived.Test.YtjeploipaejepaaForestMirror
set_option linter.unusedVariables false
set_option linter.unusedSimpArgs false
namespace Go.Proofs.Ytjeploipaejepaa
open Go.RowKit Fo

/-- the first j symbols of the mirrored word -/
def mw (l : List (Int × Int)) (j : Nat) : List (Int × Int) := (List.range j).map fun x => ((tks l).getD (l.length - 1 - x) 0, swap ((kns l).getD (l.length - 1 - x) 0))
theorem mw_len (l : List (Int × Int)) (j : Nat) : (mw l j).length = j := by simp [mw]
theorem mw_flat (l : List (Int × Int)) (j : Nat) : flat (mw l (j + 1)) = flat (mw l j) ++ [.int .i64 ((tks l).getD (l.length - 1 - j) 0), .int .i64 (swap ((kns l).getD (l.length - 1 - j) 0))] := by
  simp [mw, List.range_succ, flat]
theorem mw_kns (l : List (Int × Int)) (x : Nat) (hx : x < l.length) : (kns (mw l l.length)).getD x 0 = swap ((kns l).getD (l.length - 1 - x) 0) := by
  simp [kns, mw, List.getD, hx]

theorem one_row2 (X : World) (A : Obj) (x y : Int) : Row ((X.alloc A).alloc (.cells #[.int .i64 x, .int .i64 y] 47)) (.slice (some ⟨X.heap.size + 1, 0, none⟩) 1 1) 1 (flat [(x, y)]) := by
  have h := one_row (X.alloc A) x y
  have e : (X.alloc A).heap.size = X.heap.size + 1 := by simp
  rw [e] at h; exact h

set_option maxHeartbeats 4000000 in
set_option maxRecDepth 1000000 in
theorem forestMirrors_walk (l : List (Int × Int)) (v : Value) (w : World) (hr : Syms w v l) :
    Calls Try.prog 12 #[v] w fun e w' => e = .returned (.bool true) ∧ Below w.heap.size w w' := by
  obtain ⟨i0, hi, hz0, hz1, hz2⟩ := infoSym
  obtain ⟨ov, cv, rfl⟩ := hr.slice
  by_cases hl : 60 < l.length
  · have hm := hr.le
    go_enter Try.func12, Try.ntmps12
    go_wp2_with (go_at_call 25; refine (told15_any _).mono ?_; rintro e w1 ⟨rfl, hb1⟩)
    go_ret
    exact ⟨rfl, by repeat (first | exact Below.refl _ _ | assumption | (refine Below.drew ?_) | (refine below_drewN ?_ _) | (refine bel_new ?_ _) | (refine bel_then ?_ (by assumption)))⟩
  have hn : l.length ≤ 60 := by omega
  have hmx := hr.le
  clear hl
  have HR := Lib.hid hr
  obtain ⟨_, _, e1, _, _, hrow⟩ := hr
  simp only [Value.slice.injEq, true_and] at e1
  obtain ⟨rfl, rfl⟩ := e1
  have Hr := Lib.hid hrow
  clear hrow
  go_enter Try.func12, Try.ntmps12
  go_wp2_with fail
  go_loopw [4, 5] (fun u i wr => ∃ j : Nat, j ≤ l.length ∧ i = .int .i64 ((l.length : Int) - 1 - j) ∧ wr.ownsRow w.heap.size 47 2 u j (flat (mw l j)) ∧ Below w.heap.size w wr) (fun _ i _ => (intOf i + 1).toNat)
  case atStart => exact ⟨0, Nat.zero_le _, by simp, World.ownsRow_nil _ _ _ _, by repeat (first | exact Below.refl _ _ | assumption | (refine Below.drew ?_) | (refine below_drewN ?_ _) | (refine bel_new ?_ _) | (refine bel_then ?_ (by assumption)))⟩
  case round =>
    obtain ⟨j, hj, rfl, hown, hbel⟩ := hrel
    have hbs := hbel.size
    by_cases hjk : j < l.length
    · rcases Hr.out with ⟨h0, _⟩ | ⟨bl, off, rfl, hlt, hcell⟩
      · omega
      obtain ⟨x, hx⟩ : ∃ x, l.length = x + 1 + j := ⟨l.length - 1 - j, by omega⟩
      have hxe : l.length - 1 - j = x := by omega
      obtain ⟨hc1, hc2⟩ := flat_get l x (by omega)
      have c1 := hcell _ _ hc1
      have c2 := hcell _ _ hc2
      rw [← hbel.cell hlt] at c1 c2
      rw [← Nat.add_assoc] at c2
      have hf := mw_flat l j
      rw [hxe] at hf
      have hii : (l.length : Int) - 1 - j = (x : Int) := by omega
      rw [hii]
      obtain ⟨tok, htok⟩ : ∃ y, y = (tks l).getD x 0 := ⟨_, rfl⟩
      obtain ⟨kind, hkind⟩ : ∃ y, y = (kns l).getD x 0 := ⟨_, rfl⟩
      rw [← htok] at c1 hf
      rw [← hkind] at c2 hf
      have HF := Lib.hid (And.intro hf hii)
      have hxl : x < l.length := by omega
      have HX := Lib.hid hx
      clear hx hcell hc1 hc2 htok hkind hf hxe hii
      by_cases h1 : kind = 1
      · subst h1
        have hsw : swap 1 = 2 := by simp [swap]
        have HSW := Lib.hid hsw
        clear hsw
        go_wp2_with (first
          | (at_builtin; refine wpListW_append_row _ (by rfl) _ _ 45 rfl w.heap.size 47 i0 (.agg #[.int .i64 0, .int .i64 0]) 2 16 Try.underlying45 hi hz0 hz1 hz2 rfl (by decide) _ j (flat (mw l j)) rfl ((hown.alloc _).alloc _) _ 1 (flat [(tok, 2)]) rfl (one_row2 wr _ tok 2) rfl (flat_one _) (by unfold maxLen; omega) (by omega) (by simp; omega) ?_; intro v1 w1 hown1 hg1; have hB1 : Below w.heap.size w w1 := ((hbel.alloc hbs _).alloc (by simp; omega) _).grown hg1 (by simp; omega) (fun j hj => (hown.lt j hj).1)))
        have HO := Lib.hid (And.intro hown1 hB1)
        clear hown1 hB1 hg1 hown hbel
        try go_wp2
        go_roundw
        case rel => exact ⟨j + 1, by omega, by have := HX.out; go_num, by rw [HF.out.1, HSW.out]; exact HO.out.1, HO.out.2⟩
        case measure => simp [intOf] <;> omega
      by_cases h2 : kind = 2
      · subst h2
        have hsw : swap 2 = 1 := by simp [swap]
        have HSW := Lib.hid hsw
        clear hsw
        go_wp2_with (first
          | (at_builtin; refine wpListW_append_row _ (by rfl) _ _ 45 rfl w.heap.size 47 i0 (.agg #[.int .i64 0, .int .i64 0]) 2 16 Try.underlying45 hi hz0 hz1 hz2 rfl (by decide) _ j (flat (mw l j)) rfl ((hown.alloc _).alloc _) _ 1 (flat [(tok, 1)]) rfl (one_row2 wr _ tok 1) rfl (flat_one _) (by unfold maxLen; omega) (by omega) (by simp; omega) ?_; intro v1 w1 hown1 hg1; have hB1 : Below w.heap.size w w1 := ((hbel.alloc hbs _).alloc (by simp; omega) _).grown hg1 (by simp; omega) (fun j hj => (hown.lt j hj).1)))
        have HO := Lib.hid (And.intro hown1 hB1)
        clear hown1 hB1 hg1 hown hbel
        try go_wp2
        go_roundw
        case rel => exact ⟨j + 1, by omega, by have := HX.out; go_num, by rw [HF.out.1, HSW.out]; exact HO.out.1, HO.out.2⟩
        case measure => simp [intOf] <;> omega
      have hsw : swap kind = kind := by simp [swap, h1, h2]
      have HSW := Lib.hid hsw
      clear hsw
      go_wp2_with (first
        | (at_builtin; refine wpListW_append_row _ (by rfl) _ _ 45 rfl w.heap.size 47 i0 (.agg #[.int .i64 0, .int .i64 0]) 2 16 Try.underlying45 hi hz0 hz1 hz2 rfl (by decide) _ j (flat (mw l j)) rfl ((hown.alloc _).alloc _) _ 1 (flat [(tok, kind)]) rfl (one_row2 wr _ tok kind) rfl (flat_one _) (by unfold maxLen; omega) (by omega) (by simp; omega) ?_; intro v1 w1 hown1 hg1; have hB1 : Below w.heap.size w w1 := ((hbel.alloc hbs _).alloc (by simp; omega) _).grown hg1 (by simp; omega) (fun j hj => (hown.lt j hj).1)))
      have HO := Lib.hid (And.intro hown1 hB1)
      clear hown1 hB1 hg1 hown hbel
      try go_wp2
      go_roundw
      case rel => exact ⟨j + 1, by omega, by have := HX.out; go_num, by rw [HF.out.1, HSW.out]; exact HO.out.1, HO.out.2⟩
      case measure => simp [intOf] <;> omega
    · have hjn : j = l.length := by omega
      subst hjn
      obtain ⟨M, hM⟩ : ∃ M, M = mw l l.length := ⟨_, rfl⟩
      have hMl : M.length = l.length := by rw [hM, mw_len]
      have hMk : ∀ x, x < l.length → (kns M).getD x 0 = swap ((kns l).getD (l.length - 1 - x) 0) := by rw [hM]; exact mw_kns l
      have hS : Syms wr u4 M := by
        unfold Syms
        rw [hMl, hM]; exact Row.owned hown
      obtain ⟨o4, c4, rfl⟩ := owns_slice hown
      have hlow := fun (w' : World) (h : Below w.heap.size w w') => HR.out.below h
      have hopen := alo_mirror (kns l) (kns M) l.length hMk
      have hal : (alone M 2).length = (alone l 1).length := by rw [alone_len, alone_len, hMl]; exact hopen
      have ha1 : (alone l 1).length ≤ 60 := by rw [alone_len]; have := alo_le (kns l) 1 l.length l.length; omega
      have HM := Lib.hid (And.intro hMl (And.intro hMk (And.intro hal ha1)))
      have HS := Lib.hid (And.intro hS hbel)
      have HL := Lib.hid hlow
      clear hM hMl hMk hS hown hlow hopen hal ha1
      go_wp2_with fail
      refine (pairs_any l _ _ (HL.out _ hbel) (by omega)).mono ?_
      rintro e w2 ⟨u2, rfl, hown2, hb2⟩
      have hS2 := HS.out.1.below hb2
      have hB2 : Below w.heap.size w w2 := bel_then hbel hb2
      clear hb2
      go_wp2_with fail
      refine (pairs_any M _ _ hS2 (by have := HM.out.1; omega)).mono ?_
      rintro e w3 ⟨u3, rfl, hown3, hb3⟩
      have hml := HM.out.1
      rw [hml] at hown3
      clear hml
      have hS3 := hS2.below hb3
      have hB3 : Below w.heap.size w w3 := bel_then hB2 hb3
      have hown2' := owns_below hown2 hb3
      obtain ⟨op, cp, rfl⟩ := owns_slice hown2'
      obtain ⟨oq, cq, rfl⟩ := owns_slice hown3
      obtain ⟨_, _, e1, _, _, hrow1⟩ := Row.owned hown2'
      obtain ⟨_, _, e2, _, _, hrow2⟩ := Row.owned hown3
      simp only [Value.slice.injEq, true_and] at e1 e2
      obtain ⟨rfl, rfl⟩ := e1
      obtain ⟨rfl, rfl⟩ := e2
      have H1 := Lib.hid hrow1
      have H2 := Lib.hid hrow2
      have HB := Lib.hid (And.intro hS3 hB3)
      clear hrow1 hrow2 hown2 hown3 hown2' hb3 hS2 hB2 hS3 hB3 hbel
      go_wp2_with fail
      go_loopw [9] (fun i wr2 => ∃ j : Nat, j ≤ l.length ∧ i = .int .i64 j ∧ wr2 = w3) (fun i _ => l.length - (intOf i).toNat)
      case atStart => exact ⟨0, Nat.zero_le _, rfl, rfl⟩
      case round =>
        obtain ⟨j, hj, rfl, rfl⟩ := hrel
        by_cases hjk : j < l.length
        · rcases H1.out with ⟨h0, _⟩ | ⟨b1, off1, rfl, hlt1, hcell1⟩
          · omega
          rcases H2.out with ⟨h0, _⟩ | ⟨b2, off2, rfl, hlt2, hcell2⟩
          · omega
          obtain ⟨y, hy⟩ : ∃ y, l.length = y + 1 + j := ⟨l.length - 1 - j, by omega⟩
          have hye : l.length - 1 - j = y := by omega
          have hyi : (l.length : Int) - 1 - j = (y : Int) := by omega
          have hyl : y < l.length := by omega
          have c1 := hcell1 _ _ (prsRow_get l j hjk)
          have hq : (prsRow M)[y]? = some (.int .i64 (prs (kns M) l.length y)) := by
            have := prsRow_get M y (by have := HM.out.1; omega)
            rw [HM.out.1] at this; exact this
          have c2 := hcell2 _ _ hq
          have hmir := prs_mirror (kns l) (kns M) l.length HM.out.2.1 j hjk
          rw [hye] at hmir
          rw [hmir] at c2
          clear hcell1 hcell2 hq hmir hy hye
          rcases prs_sym (kns l) l.length j with h | ⟨k, h, hkl, _⟩
          · rw [h] at c1 c2
            rw [if_pos (by omega)] at c2
            clear h
            go_wp2
            go_roundw
            case rel => exact ⟨j + 1, by omega, by go_num, trivial⟩
            case measure => simp [intOf] <;> omega
          · rw [h] at c1 c2
            rw [if_neg (by omega)] at c2
            clear h
            go_wp2
            go_roundw
            case rel => exact ⟨j + 1, by omega, by go_num, trivial⟩
            case measure => simp [intOf] <;> omega
        · have hjn : j = l.length := by omega
          subst hjn
          obtain ⟨hS3, hB3⟩ := HB.out
          go_wp2_with fail
          refine (told15_any _).mono ?_
          rintro e w5 ⟨rfl, hb5⟩
          have hS5 := hS3.below hb5
          have hB5 : Below w.heap.size w w5 := bel_then hB3 hb5
          clear hb5 hS3 hB3
          go_wp2_with fail
          refine (open_any l _ _ (HL.out _ hB5) (by omega)).mono ?_
          rintro e w6 ⟨u6', rfl, hown6, hb6⟩
          obtain ⟨na, hna⟩ : ∃ n, n = (alone l 1).length := ⟨_, rfl⟩
          rw [← hna] at hown6
          obtain ⟨o6, c6, rfl⟩ := owns_slice hown6
          have hS6 := hS5.below hb6
          have hB6 : Below w.heap.size w w6 := bel_then hB5 hb6
          have HN := Lib.hid hna
          clear hb6 hS5 hB5 hown6 hna
          go_wp2_with fail
          refine (lost_any M _ _ hS6 (by have := HM.out.1; omega)).mono ?_
          rintro e w7 ⟨u7', rfl, hown7, hb7⟩
          rw [HM.out.2.2.1, ← HN.out] at hown7
          obtain ⟨o7, c7, rfl⟩ := owns_slice hown7
          have hB7 : Below w.heap.size w w7 := bel_then hB6 hb7
          clear hb7 hS6 hB6 hown7
          go_wp2_with fail
          refine (pairs_any [] _ _ (Row.nil _) (by simp)).mono ?_
          rintro e w8 ⟨u8', rfl, hown8, hb8⟩
          have hB8 : Below w.heap.size w w8 := bel_then hB7 hb8
          have hrow8 : Row w8 u8' 0 [] := Row.owned hown8
          clear hb8 hB7 hown8
          go_wp2_with fail
          refine (ints_same [] _ _ _ hrow8 (Row.nil w8) (by simp)).mono ?_
          rintro e w9 ⟨rfl, hb9⟩
          have hB9 : Below w.heap.size w w9 := bel_then hB8 hb9
          clear hb9 hB8 hrow8
          go_wp2
          go_ret
          exact ⟨rfl, hB9⟩
end Go.Proofs.Ytjeploipaejepaa
