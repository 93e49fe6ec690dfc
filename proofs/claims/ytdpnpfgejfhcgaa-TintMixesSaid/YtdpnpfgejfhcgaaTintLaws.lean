/- Tint: the walks of the laws themselves. -/
import Derived.Test.YtdpnpfgejfhcgaaTold1
import Derived.Deep.RegionWith
set_option linter.unusedVariables false
set_option linter.unusedSimpArgs false
namespace Go.Proofs.Ytdpnpfgejfhcgaa
open Go.RowKit Fl

/-! ### TintBytes -/
theorem tof_ok : ∀ n : Nat, n < 256 → tof n < 9218868437227405312 ∧ tbyte (tof n) = n := by decide +kernel
theorem val_tpart {a : Nat} (h : ¬ INF < rung a) (ha : a < 2 * S) : (val (tpart a) : Int) = if (val ONE : Int) ≤ sval a then (val ONE : Int) else if 0 < sval a then sval a else 0 := by
  by_cases h1 : (val ONE : Int) ≤ sval a
  · rw [if_pos h1, tpart_one h h1]
  · rw [if_neg h1]
    by_cases h2 : 0 < sval a
    · rw [if_pos h2, tpart_mid h h1 h2]
      have hs := tpart_le a ha
      rw [tpart_mid h h1 h2] at hs
      exact (small_sval (by have := ONE_lt; omega)).symm
    · rw [if_neg h2, tpart_nought h h2, val_zero]; rfl
theorem tpart_mono {a b : Nat} (ha : ¬ INF < rung a) (hb : ¬ INF < rung b) (la : a < 2 * S) (lb : b < 2 * S) (h : sval a ≤ sval b) : tpart a ≤ tpart b := by
  have h1 := val_tpart ha la
  have h2 := val_tpart hb lb
  have h3 : (val (tpart a) : Int) ≤ val (tpart b) := by
    rw [h1, h2]
    split <;> split <;> (try split) <;> (try split) <;> omega
  exact val_le_iff.1 (by omega)
theorem mulW_mono {a b c : Nat} (hb : b < INF) (hc : c < INF) (h : a ≤ b) : mulW a c ≤ mulW b c := by
  have := INF_lt_S
  rw [mulW_pos (by omega) (by omega), mulW_pos (by omega) (by omega)]
  exact rq_mono _ (Nat.mul_le_mul_right _ (val_le h))
theorem addW_mono {a b c : Nat} (hb : b < INF) (hc : c < INF) (h : a ≤ b) : addW a c ≤ addW b c := by
  have := INF_lt_S
  rw [addW_pos (by omega) (by omega), addW_pos (by omega) (by omega)]
  exact rq_mono _ (Nat.add_le_add_right (val_le h) _)
theorem tbyte_mono {a b : Nat} (ha : ¬ INF < rung a) (hb : ¬ INF < rung b) (la : a < 2 * S) (lb : b < 2 * S) (h : sval a ≤ sval b) : tbyte a ≤ tbyte b := by
  have h1 := tpart_mono ha hb la lb h
  have h2 := mulW_mono (tpart_lt b lb) C255_lt h1
  have h3 : mulW (tpart b) C255 < INF := by have := tbyte_mul lb; have := C255_lt; omega
  exact whole_le (addW_mono h3 HALF_lt h2)

theorem tintBytes_walk (c : Int) (x y : Nat) (wc : (Lit.int .u8 c).wf = true) (wx : (Lit.float .f64 x).wf = true) (wy : (Lit.float .f64 y).wf = true) (w : World) :
    Calls Try.prog 4 #[.int .u8 c, .float .f64 x, .float .f64 y] w fun e w' => e = .returned (.bool true) ∧ Below w.heap.size w w' := by
  have hx : x < 2 * S := by rw [S_num]; simpa [Lit.wf] using wx
  have hy : y < 2 * S := by rw [S_num]; simpa [Lit.wf] using wy
  obtain ⟨n, hn, rfl⟩ : ∃ n : Nat, n < 256 ∧ c = (n : Int) := by
    have h : 0 ≤ c ∧ c ≤ 255 := by simpa [Lit.wf, IntKind.min, IntKind.max, IntKind.bits, IntKind.signed] using wc
    exact ⟨c.toNat, by omega, by omega⟩
  clear wc wx wy
  have tn : tbyte 9221120237041090561 = 0 := by decide +kernel
  by_cases h1 : INF < rung x
  · have f1 := y_eq h1
    clear h1 hx hy
    go_enter Try.func4, Try.ntmps4
    go_wp2_with (first | (go_at_call 8; refine (told1_any _).mono ?_; rintro e w1 ⟨rfl, hb1⟩) | (go_at_call 26; refine (mathNaN_any _).mono ?_; rintro e w' ⟨rfl, rfl⟩) | (go_at_call 17; refine (byte_any _ (lt2S (by decide)) _).mono ?_; rintro e w' ⟨rfl, rfl⟩; rw [tn]))
    go_ret
    exact ⟨rfl, by assumption⟩
  · have f1 := n_eq h1
    by_cases h2 : INF < rung y
    · have f2 := y_eq h2
      clear h1 h2 hx hy
      go_enter Try.func4, Try.ntmps4
      go_wp2_with (first | (go_at_call 8; refine (told1_any _).mono ?_; rintro e w1 ⟨rfl, hb1⟩) | (go_at_call 26; refine (mathNaN_any _).mono ?_; rintro e w' ⟨rfl, rfl⟩) | (go_at_call 17; refine (byte_any _ (lt2S (by decide)) _).mono ?_; rintro e w' ⟨rfl, rfl⟩; rw [tn]))
      go_ret
      exact ⟨rfl, by assumption⟩
    · have f2 := n_eq h2
      obtain ⟨o1, o2⟩ := tof_ok n hn
      have k2 := ford_eq h1 h2
      unfold ford at k2
      have o3 : tof n < 2 * S := by rw [S_num]; omega
      have O2 := Lib.hid o2
      by_cases h3 : sval y < sval x
      · have k4 : (FloatKind.f64.format.order x y == some .gt) = true := by rw [k2, isgt]; simpa using h3
        clear h1 h2 o2 k2 h3
        go_enter Try.func4, Try.ntmps4
        go_wp2_with (first | (go_at_call 8; refine (told1_any _).mono ?_; rintro e w1 ⟨rfl, hb1⟩) | (go_at_call 19; refine (of_any _ hn _).mono ?_; rintro e w' ⟨rfl, rfl⟩) | (go_at_call 17; refine (byte_any _ o3 _).mono ?_; rintro e w' ⟨rfl, rfl⟩; rw [O2.out]))
        go_ret
        exact ⟨rfl, by assumption⟩
      · have k4 : (FloatKind.f64.format.order x y == some .gt) = false := by rw [k2, isgt]; simpa using h3
        have hm := tbyte_mono h1 h2 hx hy (by omega)
        have hm' : (tbyte x : Int) ≤ (tbyte y : Int) := by omega
        clear h1 h2 o2 k2 h3
        go_enter Try.func4, Try.ntmps4
        go_wp2_with (first | (go_at_call 8; refine (told1_any _).mono ?_; rintro e w1 ⟨rfl, hb1⟩) | (go_at_call 19; refine (of_any _ hn _).mono ?_; rintro e w' ⟨rfl, rfl⟩) | (go_at_call_of 17 (Value.float .f64 x); refine (byte_any _ hx _).mono ?_; rintro e w' ⟨rfl, rfl⟩) | (go_at_call_of 17 (Value.float .f64 y); refine (byte_any _ hy _).mono ?_; rintro e w' ⟨rfl, rfl⟩) | (go_at_call 17; refine (byte_any _ o3 _).mono ?_; rintro e w' ⟨rfl, rfl⟩; rw [O2.out]))
        go_ret
        exact ⟨rfl, by assumption⟩

end Go.Proofs.Ytdpnpfgejfhcgaa
