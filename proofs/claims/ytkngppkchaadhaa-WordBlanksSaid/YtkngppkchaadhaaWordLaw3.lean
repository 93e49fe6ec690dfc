/- The walk of WordBlanks. -/
import Derived.Test.YtkngppkchaadhaaWordIns2
import Derived.Deep.RegionHeld
import Derived.BigQuiet
set_option linter.unusedVariables false
set_option linter.unusedSimpArgs false
namespace Go.Proofs.Ytkngppkchaadhaa
open Go.RowKit De Wd

set_option maxHeartbeats 4000000 in
set_option maxRecDepth 1000000 in
theorem wordBlanks_walk (s : ByteArray) (a1 a2 : Int) (w : World) (hs : s.size ≤ maxLen) (hw1 : (Lit.int .i64 a1).wf = true) (hw2 : (Lit.int .i64 a2).wf = true) :
    Calls Try.prog 5 #[.string s, .int .i64 a1, .int .i64 a2] w fun e w' => e = .returned (.bool true) ∧ Below w.heap.size w w' := by
  clear hw1 hw2
  unfold maxLen at hs
  by_cases hlen : 100 < s.size
  · go_enter Try.func5, Try.ntmps5
    go_wp2_with (go_at_call 7; refine (told_any _).mono ?_; rintro e w1 ⟨rfl, hb1⟩)
    go_ret
    exact ⟨rfl, hb1⟩
  have hl4 : s.size ≤ 100 := by omega
  clear hs hlen
  have hall := wordAll_any s w (by omega)
  unfold AllPost at hall
  cases hr : rs (sb s) with
  | bad c a =>
    rw [hr] at hall
    simp only at hall
    obtain ⟨rfl, ha⟩ := rs_bad_lt (by rw [sb_len]; omega) hr
    rw [sb_len] at ha
    have HA := Lib.hid hall
    clear hall hr
    go_enter Try.func5, Try.ntmps5
    go_wp2_with fail
    refine HA.out.mono ?_
    rintro e w1 ⟨rfl, hb1⟩
    go_wp2_with (go_at_call 7; refine (told_any _).mono ?_; rintro e w2 ⟨rfl, hb2⟩)
    go_ret
    exact ⟨rfl, bel_then hb1 hb2⟩
  | ok W =>
    rw [hr] at hall
    simp only at hall
    obtain ⟨hW, _, _, _⟩ := rs_ok_sc hr
    have hWl : W.length ≤ s.size := by rw [← hW, ← sb_len]; exact sc_len _ _
    by_cases hW0 : W.length = 0
    · rw [hW0] at hall
      have HA := Lib.hid hall
      clear hall hr hW
      go_enter Try.func5, Try.ntmps5
      go_wp2_with fail
      refine HA.out.mono ?_
      rintro e w1 ⟨u1, rfl, hown1, hb1⟩
      obtain ⟨o1, c1, rfl⟩ := owns_slice hown1
      clear hown1 HA
      go_wp2_with (go_at_call 7; refine (told_any _).mono ?_; rintro e w2 ⟨rfl, hb2⟩)
      go_ret
      exact ⟨rfl, bel_then hb1 hb2⟩
    obtain ⟨i, hi, hmi⟩ := u64_modn a1 W.length (by omega)
    obtain ⟨j, hj, hmj'⟩ := u64_modn a2 6 (by omega)
    have hmj : (IntKind.u64.wrap a2).tmod 6 = (j : Int) := hmj'
    clear hmj'
    obtain ⟨p, hp⟩ : ∃ p, W[i]? = some p := ⟨W[i], List.getElem?_eq_getElem hi⟩
    obtain ⟨b, x⟩ := p
    have hbm : (b, x) ∈ W := List.mem_of_getElem? hp
    obtain ⟨_, q2, q3, q4⟩ := (sc_parts 0 (sb s)).1 i b x (by rw [hW]; exact hp)
    rw [Nat.sub_zero, sb_len] at q2
    have hwn : IntKind.u64.wrap (W.length : Int) = (W.length : Int) := wrap_small (by omega) (by omega)
    have hn0 : ((W.length : Int) == 0) = false := by rw [beq_eq_false_iff_ne]; omega
    obtain ⟨B, hB⟩ : ∃ B, B = (⟨#[32, 32, 32, 32, 32]⟩ : ByteArray).extract 0 j := ⟨_, rfl⟩
    have hBs : sb B = List.replicate j 32 := by rw [hB]; exact sb_bl j (by omega)
    have hBz : B.size = j := by rw [← sb_len, hBs, List.length_replicate]
    obtain ⟨T, hT⟩ : ∃ T, T = s.extract 0 b ++ B ++ s.extract b s.size ++ (⟨#[10, 35, 32, 116, 111, 107, 32, 63, 32, 110, 111, 116, 104, 105, 110, 103]⟩ : ByteArray) := ⟨_, rfl⟩
    have hTs : sb T = ins j b (sb s) ++ 10 :: noteL := by rw [hT]; exact sb_text s B b j (by omega) hBs
    have hTr : rs (sb T) = .ok (sh j b W ++ [(s.size + j, ⟨5, 0, 0, 1⟩)]) := by
      rw [hTs, ← sb_len]
      exact rs_blanks (sb_u8 s) (by rw [sb_len]; omega) hr hbm (by omega)
    have hTz : T.size ≤ 200 := by rw [← sb_len, hTs]; simp [ins, noteL, sb_len]; omega
    have hall2 := fun w => wordAll_any T w (by omega)
    unfold AllPost at hall2
    rw [hTr] at hall2
    simp only at hall2
    obtain ⟨V, hV⟩ : ∃ V, V = sh j b W ++ [(s.size + j, (⟨5, 0, 0, 1⟩ : Wt))] := ⟨_, rfl⟩
    have hVl : V.length = W.length + 1 := by rw [hV]; simp [sh]
    have hVx : V[W.length]? = some (s.size + j, ⟨5, 0, 0, 1⟩) := by rw [hV, List.getElem?_append_right (by simp [sh])]; simp [sh]
    have hVk : ∀ (k c : Nat) (y : Wt), W[k]? = some (c, y) → V[k]? = some (if c < b then c else c + j, y) := by
      intro k c y hk
      have hlt := (List.getElem?_eq_some_iff.1 hk).1
      rw [hV, List.getElem?_append_left (by simp [sh]; exact hlt)]
      simp [sh, hk]
    have hVt : ∀ (k c : Nat) (y : Wt), W[k]? = some (c, y) → T.extract ((if c < b then c else c + j) + y.o) ((if c < b then c else c + j) + y.o + y.n) = s.extract (c + y.o) (c + y.o + y.n) :=
      fun k c y hk => text_same hTs hW hbm (List.mem_of_getElem? hk)
    have hWk : ∀ (k c : Nat) (y : Wt), W[k]? = some (c, y) → c < s.size ∧ y.k ≠ 0 := by
      intro k c y hk
      obtain ⟨_, q2, q3, q4⟩ := (sc_parts 0 (sb s)).1 k c y (by rw [hW]; exact hk)
      rw [Nat.sub_zero, sb_len] at q2
      exact ⟨q2, q4⟩
    rw [← hV] at hall2
    rw [hVl] at hall2
    have HA := Lib.hid (And.intro hall (And.intro hall2 (And.intro hT (And.intro hVx (And.intro hVk (And.intro hVt (And.intro hWk (And.intro hB hVl))))))))
    have HW := Lib.hid hp
    clear hall hall2 hr hW hT hTs hTr hTz hV hVl hVx hVk hVt hWk hBs hB q3 hp hbm
    go_enter Try.func5, Try.ntmps5
    go_wp2_with fail
    refine HA.out.1.mono ?_
    rintro e w1 ⟨u1, rfl, hown1, hb1⟩
    obtain ⟨o1, c1, rfl⟩ := owns_slice hown1
    have R1 := Row.owned hown1
    obtain ⟨g, off, cap, e, hg, b0, b1, b2⟩ := R1.word HW.out q4
    simp only [Value.slice.injEq, true_and] at e
    obtain ⟨rfl, rfl⟩ := e
    have H1 := Lib.hid (And.intro R1 hb1)
    clear R1 hown1 hb1 b0 b1
    have hii : (0 : Int) ≤ (i : Int) := by omega
    have hij : (i : Int) < (W.length : Int) := by omega
    have hjj : (0 : Int) ≤ (j : Int) := by omega
    have hjk : (j : Int) ≤ 5 := by omega
    have hbb : (0 : Int) ≤ (b : Int) := by omega
    have hbs : (b : Int) ≤ (s.size : Int) := by omega
    go_wp2_with fail
    rw [← HA.out.2.2.2.2.2.2.2.1]
    have hall2 := HA.out.2.1
    rw [HA.out.2.2.1] at hall2
    have HT := Lib.hid hall2
    clear hall2
    have hbn : ((b : Int)).toNat = b := by omega
    go_region_held (fun w' => True) (trivial)
      (first
       | (go_at_call 8; refine (HT.out _).mono ?_; rintro e w2 ⟨u2, rfl, hown2, hb2⟩))
    rw [← HA.out.2.2.1] at hown2
    obtain ⟨o2, c2, rfl⟩ := owns_slice hown2
    have hB2 : Below w1.heap.size w1 w2 := bel_then (Below.refl _ _).drew hb2
    have hVl := HA.out.2.2.2.2.2.2.2.2
    have R2 : Row w2 (.slice o2 (W.length + 1) c2) V.length (wcs T V) := by rw [hVl]; exact Row.owned hown2
    obtain ⟨g2, off2, cap2, e, hg2, d0, d1, d2⟩ := R2.word HA.out.2.2.2.1 (by decide)
    simp only [Value.slice.injEq] at e
    obtain ⟨rfl, _, rfl⟩ := e
    have H2 := Lib.hid (And.intro R2 hB2)
    clear hown2 hb2 hB2 hVl R2 d1 d2 HT
    have hll : (0 : Int) ≤ (W.length : Int) := by omega
    have hlm : (W.length : Int) < (W.length : Int) + 1 := by omega
    have hne : ((W.length : Int) + 1 != (W.length : Int) + 1) = false := by simp
    go_wp2_with fail
    clear b2 d0 hg hg2 hwn hmi hmj
    go_loopw [15] (fun i wr => ∃ k : Nat, k ≤ W.length ∧ i = .int .i64 k ∧ Below w2.heap.size w2 wr) (fun i _ => W.length - (intOf i).toNat)
    case atStart => exact ⟨0, Nat.zero_le _, rfl, Below.refl _ _⟩
    case round =>
      obtain ⟨k, hk, rfl, hbel⟩ := hrel
      obtain ⟨wo, rfl⟩ : ∃ wo : World, wo = wr := ⟨_, rfl⟩
      by_cases hkt : k < W.length
      · obtain ⟨p, hp⟩ : ∃ p, W[k]? = some p := ⟨W[k], List.getElem?_eq_getElem hkt⟩
        obtain ⟨c, y⟩ := p
        obtain ⟨hcs, hyk⟩ := HA.out.2.2.2.2.2.2.1 k c y hp
        have hpv := HA.out.2.2.2.2.1 k c y hp
        have htx := HA.out.2.2.2.2.2.1 k c y hp
        obtain ⟨g3, off3, cap3, e3, hg3, a0, a1', a2'⟩ := (H1.out.1.below (H2.out.2.trans (hbel.mono H2.out.2.size))).word hp hyk
        simp only [Value.slice.injEq, true_and] at e3
        obtain ⟨⟨rfl, rfl⟩, _⟩ := e3
        obtain ⟨g4, off4, cap4, e4, hg4, d0, d1, d2⟩ := (H2.out.1.below hbel).word hpv hyk
        simp only [Value.slice.injEq, true_and] at e4
        obtain ⟨⟨rfl, rfl⟩, _⟩ := e4
        rw [htx] at d1
        obtain ⟨tx, htx2⟩ : ∃ tx, tx = s.extract (c + y.o) (c + y.o + y.n) := ⟨_, rfl⟩
        rw [← htx2] at d1 a1'
        obtain ⟨kk, o, n, z⟩ := y
        simp only at hyk a0 d0
        have HE := Lib.hid hbel
        have hii' : (0 : Int) ≤ (k : Int) := by omega
        have hij' : (k : Int) < (W.length : Int) := by omega
        have hik' : (k : Int) < (W.length : Int) + 1 := by omega
        have hvl : (V.length : Int) = (W.length : Int) + 1 := by have := HA.out.2.2.2.2.2.2.2.2; omega
        have hiv : (k : Int) < (V.length : Int) := by omega
        clear hbel hp hpv htx htx2
        by_cases hcb : c < b
        · rw [if_pos hcb] at d2
          have g1 : decide ((b : Int) ≤ (c : Int)) = false := by simp; omega
          have g1' : decide (b ≤ c) = false := by simp; omega
          clear hcb
          go_wp2
          go_quiet (fail)
          go_wp2
          go_roundw
          case rel => exact ⟨k + 1, by omega, by go_num, below_drewN HE.out _⟩
          case measure => simp [intOf]; omega
        · rw [if_neg hcb] at d2
          have g1 : decide ((b : Int) ≤ (c : Int)) = true := by simp; omega
          have g1' : decide (b ≤ c) = true := by simp; omega
          have d2' : ((c + j : Nat) : Int) = (c : Int) + (j : Int) := by simp
          clear hcb
          go_wp2
          go_quiet (fail)
          go_wp2
          go_roundw
          case rel => exact ⟨k + 1, by omega, by go_num, below_drewN HE.out _⟩
          case measure => simp [intOf]; omega
      · have hkn : k = W.length := by omega
        subst hkn
        go_wp2_with (go_at_call 7; refine (told_any _).mono ?_; rintro e w4 ⟨rfl, hb4⟩)
        go_ret
        exact ⟨rfl, bel_then H1.out.2 (bel_then (H2.out.2.trans (hbel.mono H2.out.2.size)) hb4)⟩
end Go.Proofs.Ytkngppkchaadhaa
