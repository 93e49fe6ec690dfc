/- Tint: the law's own examples. -/
import Derived.Test.YtdpnpfgejfhcgaaTintWalks2
set_option linter.unusedVariables false
set_option linter.unusedSimpArgs false
namespace Go.Proofs.Ytdpnpfgejfhcgaa
open Go.RowKit Fl

theorem lt2S {a : Nat} (h : a ≤ 18446744073709551615) : a < 2 * S := by rw [S_num]; omega
theorem refl0 : (FloatKind.f64.format.order 0 0 == some .eq) = true := by decide +kernel
theorem refl1 : (FloatKind.f64.format.order 4607182418800017408 4607182418800017408 == some .eq) = true := by decide +kernel
theorem reflq : (FloatKind.f64.format.order 4598175219545276416 4598175219545276416 == some .eq) = true := by decide +kernel

theorem r_field1 (a b c : Nat) (w : World) : (Instr.field 24 (.agg #[.float .f64 a, .float .f64 b, .float .f64 c]) 1).run Try.prog w = .ok (.float .f64 b) w := by kernel_rfl

theorem told1_any (w : World) : Calls Try.prog 8 #[] w fun e w' => e = .returned (.bool true) ∧ Below w.heap.size w w' := by
  have r0 := refl0
  have r1 := refl1
  have rq := reflq
  have rf := r_field1
  go_enter Try.func8, Try.ntmps8
  go_wp2_with fail
  refine (mathNaN_any _).mono ?_
  rintro e _ ⟨rfl, rfl⟩
  go_wp2_with fail
  refine (mix_any 0 0 0 4607182418800017408 4607182418800017408 4607182418800017408 4598175219545276416 (lt2S (by decide)) (lt2S (by decide)) (lt2S (by decide)) (lt2S (by decide)) (lt2S (by decide)) (lt2S (by decide)) (lt2S (by decide)) _).mono ?_
  rintro e w1 ⟨rfl, hb1⟩
  rw [t_5]
  have k0 : w1.cell? ⟨w.heap.size, 0, none⟩ = some (.float .f64 4607182418800017408) := cell_later hb1 (by simp)
  have k1 : w1.cell? ⟨w.heap.size, 1, none⟩ = some (.float .f64 4607182418800017408) := cell_later hb1 (by simp)
  have k2 : w1.cell? ⟨w.heap.size, 2, none⟩ = some (.float .f64 4607182418800017408) := cell_later hb1 (by simp)
  have z1 : w.heap.size < w1.heap.size := by have h := hb1.size; simp at h; omega
  go_wp2_with fail
  refine (byte_any _ (lt2S (by decide)) _).mono ?_
  rintro e _ ⟨rfl, rfl⟩
  rw [t_1]
  go_wp2_with fail
  refine (part_any _ (lt2S (by decide)) _).mono ?_
  rintro e _ ⟨rfl, rfl⟩
  rw [t_2]
  go_wp2_with fail
  refine (part_any _ (lt2S (by decide)) _).mono ?_
  rintro e _ ⟨rfl, rfl⟩
  rw [t_3]
  go_wp2_with fail
  refine (light_any _ _ _ (lt2S (by decide)) (lt2S (by decide)) (lt2S (by decide)) _).mono ?_
  rintro e w2 ⟨rfl, hb2⟩
  rw [t_4]
  have l0 : w2.cell? ⟨w.heap.size, 0, none⟩ = some (.float .f64 4607182418800017408) := cell_later hb2 (by simp [*, go_sem])
  have l1 : w2.cell? ⟨w.heap.size, 1, none⟩ = some (.float .f64 4607182418800017408) := cell_later hb2 (by simp [*, go_sem])
  have l2 : w2.cell? ⟨w.heap.size, 2, none⟩ = some (.float .f64 4607182418800017408) := cell_later hb2 (by simp [*, go_sem])
  have l3 : w2.cell? ⟨w1.heap.size, 1, none⟩ = some (.float .f64 4598175219545276416) := cell_later hb2 (by simp)
  go_wp2_with fail
  refine (of_any 255 (by decide) _).mono ?_
  rintro e _ ⟨rfl, rfl⟩
  rw [t_6]
  go_wp2_with fail
  refine (far_any _ _ _ _ _ _ (lt2S (by decide)) (lt2S (by decide)) (lt2S (by decide)) (lt2S (by decide)) (lt2S (by decide)) (lt2S (by decide)) _).mono ?_
  rintro e w3 ⟨rfl, hb3⟩
  rw [t_7]
  go_wp2_with fail
  refine (same_any _ _ _ _ _ _ (lt2S (by decide)) (lt2S (by decide)) (lt2S (by decide)) (lt2S (by decide)) (lt2S (by decide)) (lt2S (by decide)) _).mono ?_
  rintro e w4 ⟨rfl, hb4⟩
  rw [t_8]
  go_wp2_with fail
  refine (copy_any _).mono ?_
  rintro e _ ⟨rfl, rfl⟩
  go_wp2_with fail
  refine (same_any _ _ _ _ _ _ (lt2S (by decide)) (lt2S (by decide)) (lt2S (by decide)) (lt2S (by decide)) (lt2S (by decide)) (lt2S (by decide)) _).mono ?_
  rintro e w5 ⟨rfl, hb5⟩
  rw [t_9]
  go_wp2_with fail
  refine (fit_any _ _ _ (lt2S (by decide)) (lt2S (by decide)) (lt2S (by decide)) _).mono ?_
  rintro e w6 ⟨rfl, hb6⟩
  rw [t_10]
  go_wp2_with fail
  go_ret
  exact ⟨rfl, (by repeat (first | exact Below.refl _ _ | (refine bnew ?_ _) | (refine Below.drew ?_) | (refine below_drewN ?_ _) | (refine bthen ?_ (by assumption))))⟩
end Go.Proofs.Ytdpnpfgejfhcgaa
