/- Tint: the walk of TintAsks. -/
import Derived.Test.YtnggfdjohejfgaaTintLaw2
set_option linter.unusedVariables false
set_option linter.unusedSimpArgs false
namespace Go.Proofs.Ytnggfdjohejfgaa
open Go.RowKit Fl

theorem csame_refl (r g b : Nat) : csame r g b r g b = true := by unfold csame; simp [tsame_refl]
theorem tmix_lt (a b t : Nat) (ha : a < 2 * S) (hb : b < 2 * S) : tmix a b t < 2 * S := by
  unfold tmix
  split
  · exact ha
  · split
    · exact hb
    · exact addW_lt _ _
theorem tfar_lt (a b : Nat) : tfar a b < 2 * S := by
  have := rung_lt (subW a b)
  unfold tfar; omega
theorem one_lt {a : Nat} (h : a ≤ ONE) : a < 2 * S := by
  have := ONE_lt
  have := INF_lt_S
  omega
set_option maxHeartbeats 4000000 in
theorem tintAsks_walk (r g b r' g' b' t : Nat) (c' : Int) (wr : (Lit.float .f64 r).wf = true) (wg : (Lit.float .f64 g).wf = true) (wb : (Lit.float .f64 b).wf = true) (wr' : (Lit.float .f64 r').wf = true) (wg' : (Lit.float .f64 g').wf = true) (wb' : (Lit.float .f64 b').wf = true) (wt : (Lit.float .f64 t).wf = true) (wc : (Lit.int .u8 c').wf = true) (w : World) :
    Calls Try.prog 3 #[.agg #[.float .f64 r, .float .f64 g, .float .f64 b], .agg #[.float .f64 r', .float .f64 g', .float .f64 b'], .float .f64 t, .int .u8 c'] w fun e w' => e = .returned (.bool true) ∧ Below w.heap.size w w' := by
  have hr : r < 2 * S := by rw [S_num]; simpa [Lit.wf] using wr
  have hg : g < 2 * S := by rw [S_num]; simpa [Lit.wf] using wg
  have hb : b < 2 * S := by rw [S_num]; simpa [Lit.wf] using wb
  have hr' : r' < 2 * S := by rw [S_num]; simpa [Lit.wf] using wr'
  have hg' : g' < 2 * S := by rw [S_num]; simpa [Lit.wf] using wg'
  have hb' : b' < 2 * S := by rw [S_num]; simpa [Lit.wf] using wb'
  have ht : t < 2 * S := by rw [S_num]; simpa [Lit.wf] using wt
  obtain ⟨c, hc, rfl⟩ : ∃ n : Nat, n < 256 ∧ c' = (n : Int) := by
    have h : 0 ≤ c' ∧ c' ≤ 255 := by simpa [Lit.wf, IntKind.min, IntKind.max, IntKind.bits, IntKind.signed] using wc
    exact ⟨c'.toNat, by omega, by omega⟩
  clear wr wg wb wr' wg' wb' wt wc
  have lp := one_lt (tpart_le t ht)
  have lr := one_lt (tpart_le r hr)
  have lg := one_lt (tpart_le g hg)
  have lb := one_lt (tpart_le b hb)
  have ll := one_lt (tlight_le hr hg hb)
  have lf := tfar_lt (tlight r g b) (tlight r' g' b')
  have lo : tof c < 2 * S := by have := (tof_ok c hc).1; rw [S_num]; omega
  have mr := tmix_lt r r' t hr hr'
  have mg := tmix_lt g g' t hg hg'
  have mb := tmix_lt b b' t hb hb'
  have s1 := tsame_refl (a := tpart t)
  have s2 := tsame_refl (a := tof c)
  have s3 := tsame_refl (a := tlight r g b)
  have s4 := tsame_refl (a := tfar (tlight r g b) (tlight r' g' b'))
  have s5 := csame_refl (tpart r) (tpart g) (tpart b)
  have s6 := csame_refl (tmix r r' t) (tmix g g' t) (tmix b b' t)
  go_enter Try.func3, Try.ntmps3
  go_wp2_with fail
  simp only [List.append_eq, List.cons_append, List.nil_append]
  go_region_held3 (fun w' => w'.cell? ⟨w.heap.size, 0, none⟩ = some (.float .f64 r) ∧ w'.cell? ⟨w.heap.size, 1, none⟩ = some (.float .f64 g) ∧ w'.cell? ⟨w.heap.size, 2, none⟩ = some (.float .f64 b) ∧ w'.cell? ⟨w.heap.size + 1, 0, none⟩ = some (.float .f64 r') ∧ w'.cell? ⟨w.heap.size + 1, 1, none⟩ = some (.float .f64 g') ∧ w'.cell? ⟨w.heap.size + 1, 2, none⟩ = some (.float .f64 b'))
    (first | (refine ⟨?_, ?_, ?_, ?_, ?_, ?_⟩ <;> exact cell_later (by assumption) (by first | (simp [go_sem]; done) | simp [*, go_sem])) | (simp [*, go_sem]; done) | go_keep)
    (first
      | (go_at_call 13; refine (told1_any _).mono ?_; rintro e w1 ⟨rfl, hb1⟩)
      | (go_at_call 15; refine (part_any _ ht _).mono ?_; rintro e w1 ⟨rfl, rfl⟩)
      | (go_at_call 16; refine (refPart_any _ _).mono ?_; rintro e w1 ⟨rfl, rfl⟩)
      | (go_at_call_of 14 (Value.float .f64 (tpart t)); refine (refFloat_any _ _ lp lp _).mono ?_; rintro e w1 ⟨rfl, rfl⟩; rw [s1])
      | (go_at_call_of 14 (Value.float .f64 (tof c)); refine (refFloat_any _ _ lo lo _).mono ?_; rintro e w1 ⟨rfl, rfl⟩; rw [s2])
      | (go_at_call_of 14 (Value.float .f64 (tlight r g b)); refine (refFloat_any _ _ ll ll _).mono ?_; rintro e w1 ⟨rfl, rfl⟩; rw [s3])
      | (go_at_call 14; refine (refFloat_any _ _ lf lf _).mono ?_; rintro e w1 ⟨rfl, rfl⟩; rw [s4])
      | (go_at_call 18; refine (fit_any _ _ _ hr hg hb _).mono ?_; rintro e w1 ⟨rfl, hb1⟩)
      | (go_at_call 19; refine (refFit_any _ _ _ hr hg hb _).mono ?_; rintro e w1 ⟨rfl, hb1⟩)
      | (go_at_call_of 17 (Value.agg #[Value.float .f64 (tpart r), Value.float .f64 (tpart g), Value.float .f64 (tpart b)]); refine (refSame_any _ _ _ _ _ _ lr lg lb lr lg lb _).mono ?_; rintro e w1 ⟨rfl, hb1⟩; rw [s5])
      | (go_at_call_of 17 (Value.agg #[Value.float .f64 (tmix r r' t), Value.float .f64 (tmix g g' t), Value.float .f64 (tmix b b' t)]); refine (refSame_any _ _ _ _ _ _ mr mg mb mr mg mb _).mono ?_; rintro e w1 ⟨rfl, hb1⟩; rw [s6])
      | (go_at_call 17; refine (refSame_any _ _ _ _ _ _ hr hg hb hr' hg' hb' _).mono ?_; rintro e w1 ⟨rfl, hb1⟩)
      | (go_at_call 30; refine (same_any _ _ _ _ _ _ hr hg hb hr' hg' hb' _).mono ?_; rintro e w1 ⟨rfl, hb1⟩)
      | (go_at_call 20; refine (mix_any _ _ _ _ _ _ _ hr hg hb hr' hg' hb' ht _).mono ?_; rintro e w1 ⟨rfl, hb1⟩)
      | (go_at_call 21; refine (refMix_any _ _ _ _ _ _ _ hr hg hb hr' hg' hb' ht _).mono ?_; rintro e w1 ⟨rfl, hb1⟩)
      | (go_at_call 22; refine (byte_any _ ht _).mono ?_; rintro e w1 ⟨rfl, rfl⟩)
      | (go_at_call 23; refine (refByte_any _ ht _).mono ?_; rintro e w1 ⟨rfl, rfl⟩)
      | (go_at_call 24; refine (of_any _ hc _).mono ?_; rintro e w1 ⟨rfl, rfl⟩)
      | (go_at_call 25; refine (refOf_any _ hc _).mono ?_; rintro e w1 ⟨rfl, rfl⟩)
      | (go_at_call 26; refine (light_any _ _ _ hr hg hb _).mono ?_; rintro e w1 ⟨rfl, hb1⟩)
      | (go_at_call 27; refine (refLight_any _ _ _ hr hg hb _).mono ?_; rintro e w1 ⟨rfl, hb1⟩)
      | (go_at_call 28; refine (far_any _ _ _ _ _ _ hr hg hb hr' hg' hb' _).mono ?_; rintro e w1 ⟨rfl, hb1⟩)
      | (go_at_call 29; refine (refFar_any _ _ _ _ _ _ hr hg hb hr' hg' hb' _).mono ?_; rintro e w1 ⟨rfl, hb1⟩))
  all_goals
    go_wp2_with fail
    go_ret
    exact ⟨rfl, (by repeat (first | exact Below.refl _ _ | (refine bnew ?_ _) | (refine Below.drew ?_) | (refine below_drewN ?_ _) | (refine bthen ?_ (by assumption))))⟩
end Go.Proofs.Ytnggfdjohejfgaa
