/- Tint: the walks of TintFits and TintEdges. -/
import Derived.Test.YtdpnpfgejfhcgaaTintLaws
import Derived.Handy
set_option linter.unusedVariables false
set_option linter.unusedSimpArgs false
namespace Go.Proofs.Ytdpnpfgejfhcgaa
open Go.RowKit Fl

theorem tpart_small {p : Nat} (h : p ≤ ONE) : tpart p = p := by
  have hO := ONE_lt
  have hn := small_ok (show p ≤ INF by omega)
  have hs := small_sval (show p ≤ INF by omega)
  by_cases h1 : p = ONE
  · subst h1; exact tpart_one hn (by rw [hs]; exact Int.le_refl _)
  · have h2 : ¬ (val ONE : Int) ≤ sval p := by
      rw [hs]
      have := val_lt (show p < ONE by omega)
      omega
    by_cases h3 : p = 0
    · subst h3; exact tpart_nought hn (by rw [hs, val_zero]; omega)
    · have := val_lt (show 0 < p by omega)
      rw [val_zero] at this
      exact tpart_mid hn h2 (by rw [hs]; omega)
theorem p_facts {p : Nat} (h : p ≤ ONE) : (FloatKind.f64.format.order p 0 == some .lt) = false ∧ (FloatKind.f64.format.order p 4607182418800017408 == some .gt) = false ∧ (FloatKind.f64.format.order p p != some .eq) = false ∧ decide (wrap64 (p : Int) < 0) = false := by
  have hO := ONE_lt
  have hn := small_ok (show p ≤ INF by omega)
  have hs := small_sval (show p ≤ INF by omega)
  have hS := INF_lt_S
  refine ⟨?_, ?_, n_eq hn, ?_⟩
  · rw [f_nought_lt hn, hs]; simp only [decide_eq_false_iff_not]; omega
  · rw [f_one_gt hn, hs]; simp only [decide_eq_false_iff_not]; have := val_le h; omega
  · rw [wrap_neg (by omega)]; simp only [decide_eq_false_iff_not]; omega
theorem l_facts {p : Nat} (h : p ≤ ONE) : ((FloatKind.f64.format.order p 0 == some .gt) || (FloatKind.f64.format.order p 0 == some .eq)) = true ∧ ((FloatKind.f64.format.order p 4607182418800017408 == some .lt) || (FloatKind.f64.format.order p 4607182418800017408 == some .eq)) = true := by
  have hO := ONE_lt
  have hn := small_ok (show p ≤ INF by omega)
  have hs := small_sval (show p ≤ INF by omega)
  have e1 := c_gt (c := 0) hn (Nat.zero_le _) _ rfl
  have e2 := f_nought_eq hn
  have e3 := c_lt (c := ONE) hn (Nat.le_of_lt ONE_lt) _ rfl
  have e4 := f_one_eq hn
  have e3' : (FloatKind.f64.format.order p 4607182418800017408 == some .lt) = decide (sval p < (val ONE : Int)) := e3
  rw [e1, e2, e3', e4, hs, val_zero]
  have := val_le h
  constructor
  · by_cases c : val p = 0
    · simp [c]
    · simp; omega
  · by_cases c : val p < val ONE
    · simp [c]
    · have : val p = val ONE := by omega
      simp [this]
theorem tsame_refl {a : Nat} : tsame a a = true := by
  unfold tsame
  by_cases h : INF < rung a <;> simp [h]
theorem tlight_part (r g b : Nat) (hr : r < 2 * S) (hg : g < 2 * S) (hb : b < 2 * S) : tlight (tpart r) (tpart g) (tpart b) = tlight r g b := by
  unfold tlight
  rw [tpart_small (tpart_le r hr), tpart_small (tpart_le g hg), tpart_small (tpart_le b hb)]
theorem tfar_self {x : Nat} (h : x ≤ ONE) : tfar x x = 0 := by
  have hO := ONE_lt
  have hS := INF_lt_S
  unfold tfar subW
  rw [Int.sub_self]
  simp only [if_true]
  rw [rung_word (rq_lt_S _ _)]; rfl

theorem tintFits_walk (r g b : Nat) (wr : (Lit.float .f64 r).wf = true) (wg : (Lit.float .f64 g).wf = true) (wb : (Lit.float .f64 b).wf = true) (w : World) :
    Calls Try.prog 5 #[.agg #[.float .f64 r, .float .f64 g, .float .f64 b]] w fun e w' => e = .returned (.bool true) ∧ Below w.heap.size w w' := by
  have hr : r < 2 * S := by rw [S_num]; simpa [Lit.wf] using wr
  have hg : g < 2 * S := by rw [S_num]; simpa [Lit.wf] using wg
  have hb : b < 2 * S := by rw [S_num]; simpa [Lit.wf] using wb
  clear wr wg wb
  have pr := tpart_le r hr
  have pg := tpart_le g hg
  have pb := tpart_le b hb
  obtain ⟨r1, r2, r3, r4⟩ := p_facts pr
  obtain ⟨g1, g2, g3, g4⟩ := p_facts pg
  obtain ⟨b1, b2, b3, b4⟩ := p_facts pb
  have e1 := ext_bits
  go_enter Try.func5, Try.ntmps5
  go_wp2_with fail
  refine (fit_exact r g b hr hg hb _).mono ?_
  rintro e _ ⟨rfl, rfl⟩
  go_wp2_with fail
  refine (light_any r g b hr hg hb _).mono ?_
  rintro e w1 ⟨rfl, hb1⟩
  have k0 : w1.cell? ⟨w.heap.size, 0, none⟩ = some (.float .f64 (r)) := cell_later hb1 (by simp [go_sem])
  have k1 : w1.cell? ⟨w.heap.size, 1, none⟩ = some (.float .f64 (g)) := cell_later hb1 (by simp [go_sem])
  have k2 : w1.cell? ⟨w.heap.size, 2, none⟩ = some (.float .f64 (b)) := cell_later hb1 (by simp [go_sem])
  have k3 : w1.cell? ⟨w.heap.size + 1 + 1 + 1, 0, none⟩ = some (.float .f64 (tpart r)) := cell_later hb1 (by simp [go_sem])
  have k4 : w1.cell? ⟨w.heap.size + 1 + 1 + 1, 1, none⟩ = some (.float .f64 (tpart g)) := cell_later hb1 (by simp [go_sem])
  have k5 : w1.cell? ⟨w.heap.size + 1 + 1 + 1, 2, none⟩ = some (.float .f64 (tpart b)) := cell_later hb1 (by simp [go_sem])
  have z1 : w.heap.size < w1.heap.size := by have h := hb1.size; simp at h; omega
  have z2 : w.heap.size + 1 + 1 + 1 < w1.heap.size := by have h := hb1.size; simp at h; omega
  have y1 : w.heap.size < w1.heap.size + 1 := by omega
  have x1 : w.heap.size + 1 + 1 + 1 < w1.heap.size + 1 := by omega
  have y2 : w.heap.size < w1.heap.size + 1 + 1 := by omega
  have x2 : w.heap.size + 1 + 1 + 1 < w1.heap.size + 1 + 1 := by omega
  have y3 : w.heap.size < w1.heap.size + 1 + 1 + 1 := by omega
  have x3 : w.heap.size + 1 + 1 + 1 < w1.heap.size + 1 + 1 + 1 := by omega
  go_wp2_with fail
  refine wp_loop_rounds 4 ?_
  rw [rounds_succ]
  go_wp2
  rw [rounds_succ]
  go_wp2
  rw [rounds_succ]
  go_wp2
  rw [rounds_succ]
  go_wp2_with fail
  have ir := tpart_small pr
  have ig := tpart_small pg
  have ib := tpart_small pb
  have lr := lt2S (a := tpart r) (by have := S_num; have := tpart_lt r hr; have := INF_num; omega)
  have lg := lt2S (a := tpart g) (by have := S_num; have := tpart_lt g hg; have := INF_num; omega)
  have lb := lt2S (a := tpart b) (by have := S_num; have := tpart_lt b hb; have := INF_num; omega)
  have ll := lt2S (a := tlight r g b) (by have := S_num; have := tlight_le hr hg hb; have := ONE_lt; have := INF_num; omega)
  have sm : csame (tpart r) (tpart g) (tpart b) (tpart r) (tpart g) (tpart b) = true := by unfold csame; simp [tsame_refl]
  have fr := tfar_self (tlight_le hr hg hb)
  have lp := tlight_part r g b hr hg hb
  have ts := tsame_refl (a := tlight r g b)
  obtain ⟨l1, l2⟩ := l_facts (tlight_le hr hg hb)
  have r0 := refl0
  clear pr pg pb r1 r2 r3 r4 g1 g2 g3 g4 b1 b2 b3 b4 e1
  go_region_held3 (fun w' => w'.cell? ⟨w.heap.size, 0, none⟩ = some (.float .f64 (r)) ∧ w'.cell? ⟨w.heap.size, 1, none⟩ = some (.float .f64 (g)) ∧ w'.cell? ⟨w.heap.size, 2, none⟩ = some (.float .f64 (b)) ∧ w'.cell? ⟨w.heap.size + 1 + 1 + 1, 0, none⟩ = some (.float .f64 (tpart r)) ∧ w'.cell? ⟨w.heap.size + 1 + 1 + 1, 1, none⟩ = some (.float .f64 (tpart g)) ∧ w'.cell? ⟨w.heap.size + 1 + 1 + 1, 2, none⟩ = some (.float .f64 (tpart b)))
    (first | (refine ⟨?_, ?_, ?_, ?_, ?_, ?_⟩ <;> exact cell_later (by assumption) (by first | (simp [go_sem]; done) | simp [*, go_sem])) | (simp [*, go_sem]; done) | go_keep)
    (first
      | (go_at_call 8; refine (told1_any _).mono ?_; rintro e w1 ⟨rfl, hb1⟩)
      | (go_at_call 13; refine (fit_any _ _ _ lr lg lb _).mono ?_; rintro e w1 ⟨rfl, hb1⟩; rw [ir, ig, ib])
      | (go_at_call 25; refine (same_any _ _ _ _ _ _ lr lg lb lr lg lb _).mono ?_; rintro e w1 ⟨rfl, hb1⟩; rw [sm])
      | (go_at_call 23; refine (far_any _ _ _ _ _ _ hr hg hb hr hg hb _).mono ?_; rintro e w1 ⟨rfl, hb1⟩; rw [fr])
      | (go_at_call 21; refine (light_any _ _ _ lr lg lb _).mono ?_; rintro e w1 ⟨rfl, hb1⟩; rw [lp])
      | (go_at_call 9; refine (refFloat_any _ _ ll ll _).mono ?_; rintro e w1 ⟨rfl, rfl⟩; rw [ts]))
  all_goals
    go_wp2_with fail
    go_ret
    exact ⟨rfl, (by repeat (first | exact Below.refl _ _ | (refine bnew ?_ _) | (refine Below.drew ?_) | (refine below_drewN ?_ _) | (refine bthen ?_ (by assumption))))⟩
end Go.Proofs.Ytdpnpfgejfhcgaa
