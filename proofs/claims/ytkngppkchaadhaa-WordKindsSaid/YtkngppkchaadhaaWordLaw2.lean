/- The walk of WordKinds. -/
import Derived.Test.YtkngppkchaadhaaWordLaw1
import Derived.Test.YtkngppkchaadhaaConvRow
import Derived.Deep.RegionHeld
import Derived.Deep.DeepCutAuto
import Derived.Outline
set_option linter.unusedVariables false
set_option linter.unusedSimpArgs false
namespace Go.Proofs.Ytkngppkchaadhaa
open Go.RowKit De Wd

namespace Wd
theorem sc_a (b : Int) : sc 0 [97, 32, b, 32, 49] = ((0, ⟨1, 0, 1, 1⟩) :: (sc 2 [b, 32, 49]).1, (sc 2 [b, 32, 49]).2) := by
  rw [sc_cons (x := ⟨1, 0, 1, 1⟩) rfl]
  show ((0, _) :: (sc 1 [32, b, 32, 49]).1, (sc 1 [32, b, 32, 49]).2) = _
  rw [sc_cons (l := [32, b, 32, 49]) (x := ⟨0, 0, 0, 1⟩) rfl]
  rfl
theorem sc_z : sc 3 [32, 49] = ([(4, ⟨2, 0, 1, 1⟩)], none) := by
  rw [← scF_eq 2 _ _ (by decide)]; rfl
theorem k_rs {b : Int} (hb : 32 ≤ b ∧ b ≤ 126) {W : List (Nat × Wt)} (h : sc 2 [b, 32, 49] = (W, none)) : rs [97, 32, b, 32, 49] = .ok ((0, ⟨1, 0, 1, 1⟩) :: W) := by
  have hx : ∀ x ∈ [97, 32, b, 32, 49], x < 128 := by intro x hx; simp at hx; omega
  unfold rs
  rw [if_neg (by simp), fb_asc hx, sc_a, h]
  simp
theorem k_bad {b : Int} (hb : 32 ≤ b ∧ b ≤ 126) (h : wd [b, 32, 49] = none) : rs [97, 32, b, 32, 49] = .bad 2 2 := by
  have hx : ∀ x ∈ [97, 32, b, 32, 49], x < 128 := by intro x hx; simp at hx; omega
  unfold rs
  rw [if_neg (by simp), fb_asc hx, sc_a, sc_none (by simp) h]
  simp
theorem k_one {b : Int} {k : Int} (hk : k ≠ 0) (h : wd [b, 32, 49] = some ⟨k, 0, 1, 1⟩) : sc 2 [b, 32, 49] = ([(2, ⟨k, 0, 1, 1⟩), (4, ⟨2, 0, 1, 1⟩)], none) := by
  rw [sc_cons h]
  show (if k = 0 then (sc 3 [32, 49]).1 else (2, _) :: (sc 3 [32, 49]).1, (sc 3 [32, 49]).2) = _
  rw [sc_z, if_neg hk]
theorem k_blank : sc 2 [32, 32, 49] = ([(4, ⟨2, 0, 1, 1⟩)], none) := by rw [← scF_eq 3 _ _ (by decide)]; rfl
theorem k_note : sc 2 [35, 32, 49] = ([], none) := by rw [← scF_eq 3 _ _ (by decide)]; rfl
theorem rn_one {p : Int → Bool} {b : Int} (h : p b = true) (h2 : p 32 = false) : rn p [b, 32, 49] = 1 := by simp [rn, h, h2]
theorem wd_low {b : Int} (h : isLow b = true) : wd [b, 32, 49] = some ⟨1, 0, 1, 1⟩ := by
  have h1 : 97 ≤ b ∧ b ≤ 122 := of_decide_eq_true h
  simp only [wd]
  rw [if_neg (by omega), if_neg (by omega), if_neg (by omega), if_neg (by omega), if_pos h, rn_one (by simp [lowDig, h]) (by decide)]
theorem wd_dig {b : Int} (h : isDig b = true) : wd [b, 32, 49] = some ⟨2, 0, 1, 1⟩ := by
  have h1 : 48 ≤ b ∧ b ≤ 57 := of_decide_eq_true h
  have h2 : isLow b = false := by unfold isLow; simp; omega
  simp only [wd]
  rw [if_neg (by omega), if_neg (by omega), if_neg (by omega), if_neg (by omega), if_neg (by rw [h2]; decide), if_pos h, rn_one h (by decide)]
theorem sign_cases {b : Int} (h : isSign b = true) : isLow b = false ∧ isDig b = false ∧ b ≠ 32 ∧ b ≠ 9 ∧ b ≠ 13 ∧ b ≠ 35 ∧ b ≠ 10 ∧ b ≠ 47 := by
  have h1 : b ∈ signs := of_decide_eq_true h
  simp only [signs, List.mem_cons, List.not_mem_nil, or_false] at h1
  rcases h1 with rfl | rfl | rfl | rfl | rfl | rfl | rfl | rfl | rfl | rfl | rfl | rfl <;> decide
theorem wd_sign {b : Int} (h : isSign b = true) : wd [b, 32, 49] = some ⟨3, 0, 1, 1⟩ := by
  obtain ⟨h1, h2, h3, h4, h5, h6, h7, h8⟩ := sign_cases h
  simp only [wd]
  rw [if_neg (by omega), if_neg h6, if_neg h7, if_neg h8, if_neg (by rw [h1]; decide), if_neg (by rw [h2]; decide), if_pos h]
theorem wd_nix {b : Int} (hb : 32 ≤ b ∧ b ≤ 126) (h1 : isLow b = false) (h2 : isDig b = false) (h3 : isSign b = false) (h4 : b ≠ 32) (h5 : b ≠ 35) : wd [b, 32, 49] = none := by
  simp only [wd]
  rw [if_neg (by omega), if_neg h5, if_neg (by omega)]
  by_cases h47 : b = 47
  · rw [if_pos h47]; rfl
  · rw [if_neg h47, if_neg (by rw [h1]; decide), if_neg (by rw [h2]; decide), if_neg (by rw [h3]; decide)]
theorem dec_snoc (A : List Int) (x b : Int) : decide (b ∈ A ++ [x]) = (decide (b ∈ A) || decide (x = b)) := by
  rw [Bool.eq_iff_iff]
  simp only [decide_eq_true_eq, Bool.or_eq_true, List.mem_append, List.mem_singleton]
  exact or_congr_right ⟨fun h => h.symm, fun h => h.symm⟩
theorem take_sign (b : Int) (k : Nat) (hk : k < 12) : decide (b ∈ signs.take (k + 1)) = (decide (b ∈ signs.take k) || decide (signs.getD k 0 = b)) := by
  have e : signs.take (k + 1) = signs.take k ++ [signs.getD k 0] := by
    rcases (by omega : k = 0 ∨ k = 1 ∨ k = 2 ∨ k = 3 ∨ k = 4 ∨ k = 5 ∨ k = 6 ∨ k = 7 ∨ k = 8 ∨ k = 9 ∨ k = 10 ∨ k = 11) with rfl | rfl | rfl | rfl | rfl | rfl | rfl | rfl | rfl | rfl | rfl | rfl <;> rfl
  rw [e, dec_snoc]
end Wd
theorem kText (b : Int) (hb : 0 ≤ b ∧ b < 256) : sb ((⟨#[97, 32]⟩ : ByteArray) ++ strOfNums [b] ++ (⟨#[32, 49]⟩ : ByteArray)) = [97, 32, b, 32, 49] := by
  rw [sb_append, sb_append, sb_nums [b] (by intro x hx; simp at hx; omega)]
  rfl
theorem kCut (b : Int) : ((⟨#[97, 32]⟩ : ByteArray) ++ strOfNums [b] ++ (⟨#[32, 49]⟩ : ByteArray)).extract 2 3 = strOfNums [b] := by
  rw [Lib.extract_eq]
  simp [ByteArray.data_append, strOfNums]

theorem u8_wf {c : Int} (h : (Lit.int .u8 c).wf = true) : 0 ≤ c ∧ c < 256 := by
  simp [Lit.wf, IntKind.min, IntKind.max, IntKind.signed, IntKind.bits] at h; omega
theorem strEq (s : ByteArray) (w : World) : (binOp .eql 9 (.string s) (.string s)).run Try.prog w = .ok (.bool true) w := by
  simp [go_sem]
def KindsEnd (w : World) (e : Ending) (w' : World) : Prop := e = .returned (.bool true) ∧ Below w.heap.size w w'
theorem sign_byte : ∀ (k : Nat) (hk : k < (⟨#[123, 125, 40, 41, 124, 42, 94, 60, 62, 58, 95, 61]⟩ : ByteArray).size), (((⟨#[123, 125, 40, 41, 124, 42, 94, 60, 62, 58, 95, 61]⟩ : ByteArray)[k]'hk).toNat : Int) = signs.getD k 0 := by
  intro k hk
  have hk' : k < 12 := hk
  rcases (by omega : k = 0 ∨ k = 1 ∨ k = 2 ∨ k = 3 ∨ k = 4 ∨ k = 5 ∨ k = 6 ∨ k = 7 ∨ k = 8 ∨ k = 9 ∨ k = 10 ∨ k = 11) with rfl | rfl | rfl | rfl | rfl | rfl | rfl | rfl | rfl | rfl | rfl | rfl <;> rfl

set_option maxHeartbeats 8000000 in
set_option maxRecDepth 1000000 in
theorem kinds_blank (c b : Int) (w : World) (hc : 0 ≤ c ∧ c < 256) (hb : b = c % 95 + 32) (h32 : b = 32) : Calls Try.prog 6 #[.int .u8 c] w (KindsEnd w) := by
  have hbr : 32 ≤ b ∧ b ≤ 126 := by omega
  obtain ⟨S, hS⟩ : ∃ S, S = (⟨#[97, 32]⟩ : ByteArray) ++ strOfNums [b] ++ (⟨#[32, 49]⟩ : ByteArray) := ⟨_, rfl⟩
  have hT := kText b (by omega)
  have hCut := kCut b
  rw [← hS] at hT hCut
  have hSz : S.size ≤ 100 := by rw [← sb_len, hT]; simp
  have hall := fun w => wordAll_any S w (by omega)
  unfold AllPost at hall
  rw [hT, show b = 32 from h32, k_rs (by decide) k_blank] at hall
  simp only at hall
  have hcv := fun w => conv_lit w [b] 1 rfl (by decide)
  simp only [List.map_cons, List.map_nil] at hcv
  have hs12 : decide (b ∈ signs.take 12) = false := by rw [h32]; decide
  have HH := Lib.hid (And.intro hall (And.intro hb (And.intro hS (And.intro hCut hs12))))
  have hmod : c % 95 + 32 ≤ 126 := by omega
  have hmod0 : 32 ≤ c % 95 + 32 := by omega
  have x0 : (b == 32) = true := by simp [h32]
  have x1 : decide (97 ≤ b) = false := by simp; omega
  have x2 : decide (48 ≤ b) = false := by simp; omega
  clear hall hS hT hCut hb hs12 h32
  go_enter Try.func6, Try.ntmps6
  go_upto_region 1 with (fail)
  go_cut [3] (fun s3 wc => s3 = .int .u8 b ∧ wc = w)
  case first =>
    go_wp2_with fail
    go_meet
    exact ⟨by rw [HH.out.2.1]; try rfl, rfl⟩
  case rest =>
    obtain ⟨rfl, rfl⟩ := hcut
    go_wp2_with fail
    rw [← HH.out.2.2.1]
    refine (HH.out.1 _).mono ?_
    rintro e w1 ⟨u1, rfl, hown1, hb1⟩
    have hB1 : Below wc.heap.size wc w1 := bel_then (bel_new (Below.refl _ _) _) hb1
    obtain ⟨g, off, cap, rfl, hgl, hcl⟩ := (Row.owned hown1).cells (by decide)
    have HC := Lib.hid (And.intro hcl hB1)
    clear hown1 hb1 hcl hB1
    go_wp2_with fail
    go_loop [7, 8] (fun sg i => ∃ k : Nat, k ≤ 12 ∧ i = .int .i64 k ∧ sg = .bool (decide (b ∈ signs.take k))) (fun _ i => 12 - (intOf i).toNat)
    case atStart => exact ⟨0, by omega, rfl, rfl⟩
    case round =>
      obtain ⟨k, hk, rfl, rfl⟩ := hrel
      by_cases hkt : k < 12
      · have hts := take_sign b k hkt
        have hsb := sign_byte k hkt
        have hd : decide ((k : Int) < 12) = true := by simp; omega
        cases hsg : decide (b ∈ signs.take k) with
        | true =>
          rw [hsg, Bool.true_or] at hts
          have HT := Lib.hid hts
          clear hts hsb hsg
          go_wp2
          go_round
          case rel => exact ⟨k + 1, by omega, by go_num, by rw [HT.out]⟩
          case measure => simp [intOf]; omega
        | false =>
          rw [hsg, Bool.false_or] at hts
          have ht : (((((⟨#[123, 125, 40, 41, 124, 42, 94, 60, 62, 58, 95, 61]⟩ : ByteArray)[k]'hkt).toNat : Int)) == b) = decide (signs.getD k 0 = b) := by rw [hsb]; rfl
          have hii : (0 : Int) ≤ (k : Int) := by omega
          have hij : (k : Int) < 12 := by omega
          cases hq : decide (signs.getD k 0 = b) with
          | true =>
            rw [hq] at ht hts
            have HT := Lib.hid hts
            clear hts hsb hsg hq
            go_wp2
            go_round
            case rel => exact ⟨k + 1, by omega, by go_num, by rw [HT.out]⟩
            case measure => simp [intOf]; omega
          | false =>
            rw [hq] at ht hts
            have HT := Lib.hid hts
            clear hts hsb hsg hq
            go_wp2
            go_round
            case rel => exact ⟨k + 1, by omega, by go_num, by rw [HT.out]⟩
            case measure => simp [intOf]; omega
      · have hkn : k = 12 := by omega
        subst hkn
        rw [HH.out.2.2.2.2]
        go_wp2_with (go_at_call 7; refine (told_any _).mono ?_; rintro e w4 ⟨rfl, hb4⟩)
        go_ret
        exact ⟨rfl, bel_then HC.out.2 hb4⟩

set_option maxHeartbeats 8000000 in
set_option maxRecDepth 1000000 in
theorem kinds_note (c b : Int) (w : World) (hc : 0 ≤ c ∧ c < 256) (hb : b = c % 95 + 32) (h35 : b = 35) : Calls Try.prog 6 #[.int .u8 c] w (KindsEnd w) := by
  have hbr : 32 ≤ b ∧ b ≤ 126 := by omega
  obtain ⟨S, hS⟩ : ∃ S, S = (⟨#[97, 32]⟩ : ByteArray) ++ strOfNums [b] ++ (⟨#[32, 49]⟩ : ByteArray) := ⟨_, rfl⟩
  have hT := kText b (by omega)
  have hCut := kCut b
  rw [← hS] at hT hCut
  have hSz : S.size ≤ 100 := by rw [← sb_len, hT]; simp
  have hall := fun w => wordAll_any S w (by omega)
  unfold AllPost at hall
  rw [hT, show b = 35 from h35, k_rs (by decide) k_note] at hall
  simp only at hall
  have hcv := fun w => conv_lit w [b] 1 rfl (by decide)
  simp only [List.map_cons, List.map_nil] at hcv
  have hs12 : decide (b ∈ signs.take 12) = false := by rw [h35]; decide
  have HH := Lib.hid (And.intro hall (And.intro hb (And.intro hS (And.intro hCut hs12))))
  have hmod : c % 95 + 32 ≤ 126 := by omega
  have hmod0 : 32 ≤ c % 95 + 32 := by omega
  have x0 : (b == 32) = false := by simp; omega
  have x3 : (b == 35) = true := by simp [h35]
  have x1 : decide (97 ≤ b) = false := by simp; omega
  have x2 : decide (48 ≤ b) = false := by simp; omega
  clear hall hS hT hCut hb hs12 h35
  go_enter Try.func6, Try.ntmps6
  go_upto_region 1 with (fail)
  go_cut [3] (fun s3 wc => s3 = .int .u8 b ∧ wc = w)
  case first =>
    go_wp2_with fail
    go_meet
    exact ⟨by rw [HH.out.2.1]; try rfl, rfl⟩
  case rest =>
    obtain ⟨rfl, rfl⟩ := hcut
    go_wp2_with fail
    rw [← HH.out.2.2.1]
    refine (HH.out.1 _).mono ?_
    rintro e w1 ⟨u1, rfl, hown1, hb1⟩
    have hB1 : Below wc.heap.size wc w1 := bel_then (bel_new (Below.refl _ _) _) hb1
    obtain ⟨g, off, cap, rfl, hgl, hcl⟩ := (Row.owned hown1).cells (by decide)
    have HC := Lib.hid (And.intro hcl hB1)
    clear hown1 hb1 hcl hB1
    go_wp2_with fail
    go_loop [7, 8] (fun sg i => ∃ k : Nat, k ≤ 12 ∧ i = .int .i64 k ∧ sg = .bool (decide (b ∈ signs.take k))) (fun _ i => 12 - (intOf i).toNat)
    case atStart => exact ⟨0, by omega, rfl, rfl⟩
    case round =>
      obtain ⟨k, hk, rfl, rfl⟩ := hrel
      by_cases hkt : k < 12
      · have hts := take_sign b k hkt
        have hsb := sign_byte k hkt
        have hd : decide ((k : Int) < 12) = true := by simp; omega
        cases hsg : decide (b ∈ signs.take k) with
        | true =>
          rw [hsg, Bool.true_or] at hts
          have HT := Lib.hid hts
          clear hts hsb hsg
          go_wp2
          go_round
          case rel => exact ⟨k + 1, by omega, by go_num, by rw [HT.out]⟩
          case measure => simp [intOf]; omega
        | false =>
          rw [hsg, Bool.false_or] at hts
          have ht : (((((⟨#[123, 125, 40, 41, 124, 42, 94, 60, 62, 58, 95, 61]⟩ : ByteArray)[k]'hkt).toNat : Int)) == b) = decide (signs.getD k 0 = b) := by rw [hsb]; rfl
          have hii : (0 : Int) ≤ (k : Int) := by omega
          have hij : (k : Int) < 12 := by omega
          cases hq : decide (signs.getD k 0 = b) with
          | true =>
            rw [hq] at ht hts
            have HT := Lib.hid hts
            clear hts hsb hsg hq
            go_wp2
            go_round
            case rel => exact ⟨k + 1, by omega, by go_num, by rw [HT.out]⟩
            case measure => simp [intOf]; omega
          | false =>
            rw [hq] at ht hts
            have HT := Lib.hid hts
            clear hts hsb hsg hq
            go_wp2
            go_round
            case rel => exact ⟨k + 1, by omega, by go_num, by rw [HT.out]⟩
            case measure => simp [intOf]; omega
      · have hkn : k = 12 := by omega
        subst hkn
        rw [HH.out.2.2.2.2]
        go_wp2_with (go_at_call 7; refine (told_any _).mono ?_; rintro e w4 ⟨rfl, hb4⟩)
        go_ret
        exact ⟨rfl, bel_then HC.out.2 hb4⟩

set_option maxHeartbeats 8000000 in
set_option maxRecDepth 1000000 in
theorem kinds_low (c b : Int) (w : World) (hc : 0 ≤ c ∧ c < 256) (hb : b = c % 95 + 32) (h : isLow b = true) (hr : 97 ≤ b ∧ b ≤ 122) : Calls Try.prog 6 #[.int .u8 c] w (KindsEnd w) := by
  have hbr : 32 ≤ b ∧ b ≤ 126 := by omega
  obtain ⟨S, hS⟩ : ∃ S, S = (⟨#[97, 32]⟩ : ByteArray) ++ strOfNums [b] ++ (⟨#[32, 49]⟩ : ByteArray) := ⟨_, rfl⟩
  have hT := kText b (by omega)
  have hCut := kCut b
  rw [← hS] at hT hCut
  have hSz : S.size ≤ 100 := by rw [← sb_len, hT]; simp
  have hall := fun w => wordAll_any S w (by omega)
  unfold AllPost at hall
  rw [hT, k_rs hbr (k_one (by decide) (wd_low h))] at hall
  simp only at hall
  have hcv := fun w => conv_lit w [b] 1 rfl (by decide)
  simp only [List.map_cons, List.map_nil] at hcv
  have hs12 : decide (b ∈ signs.take 12) = false := by
    rcases hsg : decide (b ∈ signs.take 12) with _ | _
    · rfl
    · have h2 : isSign b = true := hsg
      rw [(sign_cases h2).1] at h; cases h
  have HH := Lib.hid (And.intro hall (And.intro hb (And.intro hS (And.intro hCut hs12))))
  have hmod : c % 95 + 32 ≤ 126 := by omega
  have hmod0 : 32 ≤ c % 95 + 32 := by omega
  have x0 : (b == 32) = false := by simp; omega
  have x3 : (b == 35) = false := by simp; omega
  have x1 : decide (97 ≤ b) = true := by simp; omega
  have x1b : decide (b ≤ 122) = true := by simp; omega
  have x2 : decide (48 ≤ b) = true := by simp; omega
  have x2b : decide (b ≤ 57) = false := by simp; omega
  clear hall hS hT hCut hb hs12 h
  go_enter Try.func6, Try.ntmps6
  go_upto_region 1 with (fail)
  go_cut [3] (fun s3 wc => s3 = .int .u8 b ∧ wc = w)
  case first =>
    go_wp2_with fail
    go_meet
    exact ⟨by rw [HH.out.2.1]; try rfl, rfl⟩
  case rest =>
    obtain ⟨rfl, rfl⟩ := hcut
    go_wp2_with fail
    rw [← HH.out.2.2.1]
    refine (HH.out.1 _).mono ?_
    rintro e w1 ⟨u1, rfl, hown1, hb1⟩
    have hB1 : Below wc.heap.size wc w1 := bel_then (bel_new (Below.refl _ _) _) hb1
    obtain ⟨g, off, cap, rfl, hgl, hcl⟩ := (Row.owned hown1).cells (by decide)
    have HC := Lib.hid (And.intro hcl hB1)
    clear hown1 hb1 hcl hB1
    go_wp2_with fail
    go_loop [7, 8] (fun sg i => ∃ k : Nat, k ≤ 12 ∧ i = .int .i64 k ∧ sg = .bool (decide (b ∈ signs.take k))) (fun _ i => 12 - (intOf i).toNat)
    case atStart => exact ⟨0, by omega, rfl, rfl⟩
    case round =>
      obtain ⟨k, hk, rfl, rfl⟩ := hrel
      by_cases hkt : k < 12
      · have hts := take_sign b k hkt
        have hsb := sign_byte k hkt
        have hd : decide ((k : Int) < 12) = true := by simp; omega
        cases hsg : decide (b ∈ signs.take k) with
        | true =>
          rw [hsg, Bool.true_or] at hts
          have HT := Lib.hid hts
          clear hts hsb hsg
          go_wp2
          go_round
          case rel => exact ⟨k + 1, by omega, by go_num, by rw [HT.out]⟩
          case measure => simp [intOf]; omega
        | false =>
          rw [hsg, Bool.false_or] at hts
          have ht : (((((⟨#[123, 125, 40, 41, 124, 42, 94, 60, 62, 58, 95, 61]⟩ : ByteArray)[k]'hkt).toNat : Int)) == b) = decide (signs.getD k 0 = b) := by rw [hsb]; rfl
          have hii : (0 : Int) ≤ (k : Int) := by omega
          have hij : (k : Int) < 12 := by omega
          cases hq : decide (signs.getD k 0 = b) with
          | true =>
            rw [hq] at ht hts
            have HT := Lib.hid hts
            clear hts hsb hsg hq
            go_wp2
            go_round
            case rel => exact ⟨k + 1, by omega, by go_num, by rw [HT.out]⟩
            case measure => simp [intOf]; omega
          | false =>
            rw [hq] at ht hts
            have HT := Lib.hid hts
            clear hts hsb hsg hq
            go_wp2
            go_round
            case rel => exact ⟨k + 1, by omega, by go_num, by rw [HT.out]⟩
            case measure => simp [intOf]; omega
      · have hkn : k = 12 := by omega
        subst hkn
        rw [HH.out.2.2.2.2]
        have hS1 : ∀ w2, Below w1.heap.size w1 w2 → w2.cell? ⟨g, off + 3, none⟩ = some (.int .i64 1) ∧ w2.cell? ⟨g, off + 4, none⟩ = some (.string (strOfNums [b])) ∧ w2.cell? ⟨g, off + 5, none⟩ = some (.int .i64 2) ∧ w2.cell? ⟨g, off + 6, none⟩ = some (.int .i64 2) := by
          intro w2 hb2
          have q := HC.out.1
          have hx := HH.out.2.2.2.1
          refine ⟨?_, ?_, ?_, ?_⟩
          · rw [hb2.cell hgl]; exact q 3 _ rfl
          · rw [hb2.cell hgl]; exact q 4 _ (by rw [← hx]; rfl)
          · rw [hb2.cell hgl]; exact q 5 _ rfl
          · rw [hb2.cell hgl]; exact q 6 _ rfl
        have HS1 := Lib.hid hS1
        have m0 := hS1 w1.drew (Below.refl _ _).drew
        have hse := strEq (strOfNums [b])
        clear hS1
        go_wp2_with fail
        go_region_held (fun w' => w'.cell? ⟨g, off + 3, none⟩ = some (.int .i64 1) ∧ w'.cell? ⟨g, off + 4, none⟩ = some (.string (strOfNums [b])) ∧ w'.cell? ⟨g, off + 5, none⟩ = some (.int .i64 2) ∧ w'.cell? ⟨g, off + 6, none⟩ = some (.int .i64 2))
          (first | exact m0 | exact m1 | go_keep)
          (first
           | (go_at_call 7; refine (told_any _).mono ?_; rintro e w2 ⟨rfl, hb2⟩; have hB2 : Below w1.heap.size w1 w2 := bel_then (Below.refl _ _).drew hb2; have m1 := HS1.out w2 hB2))
        all_goals (go_wp2_with (fail))
        all_goals (go_ret)
        all_goals (exact ⟨rfl, bel_then HC.out.2 (bel_new hB2 _)⟩)

set_option maxHeartbeats 8000000 in
set_option maxRecDepth 1000000 in
theorem kinds_dig (c b : Int) (w : World) (hc : 0 ≤ c ∧ c < 256) (hb : b = c % 95 + 32) (h : isDig b = true) (hr : 48 ≤ b ∧ b ≤ 57) : Calls Try.prog 6 #[.int .u8 c] w (KindsEnd w) := by
  have hbr : 32 ≤ b ∧ b ≤ 126 := by omega
  obtain ⟨S, hS⟩ : ∃ S, S = (⟨#[97, 32]⟩ : ByteArray) ++ strOfNums [b] ++ (⟨#[32, 49]⟩ : ByteArray) := ⟨_, rfl⟩
  have hT := kText b (by omega)
  have hCut := kCut b
  rw [← hS] at hT hCut
  have hSz : S.size ≤ 100 := by rw [← sb_len, hT]; simp
  have hall := fun w => wordAll_any S w (by omega)
  unfold AllPost at hall
  rw [hT, k_rs hbr (k_one (by decide) (wd_dig h))] at hall
  simp only at hall
  have hcv := fun w => conv_lit w [b] 1 rfl (by decide)
  simp only [List.map_cons, List.map_nil] at hcv
  have hs12 : decide (b ∈ signs.take 12) = false := by
    rcases hsg : decide (b ∈ signs.take 12) with _ | _
    · rfl
    · have h2 : isSign b = true := hsg
      rw [(sign_cases h2).2.1] at h; cases h
  have HH := Lib.hid (And.intro hall (And.intro hb (And.intro hS (And.intro hCut hs12))))
  have hmod : c % 95 + 32 ≤ 126 := by omega
  have hmod0 : 32 ≤ c % 95 + 32 := by omega
  have x0 : (b == 32) = false := by simp; omega
  have x3 : (b == 35) = false := by simp; omega
  have x1 : decide (97 ≤ b) = false := by simp; omega
  have x2 : decide (48 ≤ b) = true := by simp; omega
  have x2b : decide (b ≤ 57) = true := by simp; omega
  clear hall hS hT hCut hb hs12 h
  go_enter Try.func6, Try.ntmps6
  go_upto_region 1 with (fail)
  go_cut [3] (fun s3 wc => s3 = .int .u8 b ∧ wc = w)
  case first =>
    go_wp2_with fail
    go_meet
    exact ⟨by rw [HH.out.2.1]; try rfl, rfl⟩
  case rest =>
    obtain ⟨rfl, rfl⟩ := hcut
    go_wp2_with fail
    rw [← HH.out.2.2.1]
    refine (HH.out.1 _).mono ?_
    rintro e w1 ⟨u1, rfl, hown1, hb1⟩
    have hB1 : Below wc.heap.size wc w1 := bel_then (bel_new (Below.refl _ _) _) hb1
    obtain ⟨g, off, cap, rfl, hgl, hcl⟩ := (Row.owned hown1).cells (by decide)
    have HC := Lib.hid (And.intro hcl hB1)
    clear hown1 hb1 hcl hB1
    go_wp2_with fail
    go_loop [7, 8] (fun sg i => ∃ k : Nat, k ≤ 12 ∧ i = .int .i64 k ∧ sg = .bool (decide (b ∈ signs.take k))) (fun _ i => 12 - (intOf i).toNat)
    case atStart => exact ⟨0, by omega, rfl, rfl⟩
    case round =>
      obtain ⟨k, hk, rfl, rfl⟩ := hrel
      by_cases hkt : k < 12
      · have hts := take_sign b k hkt
        have hsb := sign_byte k hkt
        have hd : decide ((k : Int) < 12) = true := by simp; omega
        cases hsg : decide (b ∈ signs.take k) with
        | true =>
          rw [hsg, Bool.true_or] at hts
          have HT := Lib.hid hts
          clear hts hsb hsg
          go_wp2
          go_round
          case rel => exact ⟨k + 1, by omega, by go_num, by rw [HT.out]⟩
          case measure => simp [intOf]; omega
        | false =>
          rw [hsg, Bool.false_or] at hts
          have ht : (((((⟨#[123, 125, 40, 41, 124, 42, 94, 60, 62, 58, 95, 61]⟩ : ByteArray)[k]'hkt).toNat : Int)) == b) = decide (signs.getD k 0 = b) := by rw [hsb]; rfl
          have hii : (0 : Int) ≤ (k : Int) := by omega
          have hij : (k : Int) < 12 := by omega
          cases hq : decide (signs.getD k 0 = b) with
          | true =>
            rw [hq] at ht hts
            have HT := Lib.hid hts
            clear hts hsb hsg hq
            go_wp2
            go_round
            case rel => exact ⟨k + 1, by omega, by go_num, by rw [HT.out]⟩
            case measure => simp [intOf]; omega
          | false =>
            rw [hq] at ht hts
            have HT := Lib.hid hts
            clear hts hsb hsg hq
            go_wp2
            go_round
            case rel => exact ⟨k + 1, by omega, by go_num, by rw [HT.out]⟩
            case measure => simp [intOf]; omega
      · have hkn : k = 12 := by omega
        subst hkn
        rw [HH.out.2.2.2.2]
        have hS1 : ∀ w2, Below w1.heap.size w1 w2 → w2.cell? ⟨g, off + 3, none⟩ = some (.int .i64 2) ∧ w2.cell? ⟨g, off + 4, none⟩ = some (.string (strOfNums [b])) ∧ w2.cell? ⟨g, off + 5, none⟩ = some (.int .i64 2) ∧ w2.cell? ⟨g, off + 6, none⟩ = some (.int .i64 2) := by
          intro w2 hb2
          have q := HC.out.1
          have hx := HH.out.2.2.2.1
          refine ⟨?_, ?_, ?_, ?_⟩
          · rw [hb2.cell hgl]; exact q 3 _ rfl
          · rw [hb2.cell hgl]; exact q 4 _ (by rw [← hx]; rfl)
          · rw [hb2.cell hgl]; exact q 5 _ rfl
          · rw [hb2.cell hgl]; exact q 6 _ rfl
        have HS1 := Lib.hid hS1
        have m0 := hS1 w1.drew (Below.refl _ _).drew
        have hse := strEq (strOfNums [b])
        clear hS1
        go_wp2_with fail
        go_region_held (fun w' => w'.cell? ⟨g, off + 3, none⟩ = some (.int .i64 2) ∧ w'.cell? ⟨g, off + 4, none⟩ = some (.string (strOfNums [b])) ∧ w'.cell? ⟨g, off + 5, none⟩ = some (.int .i64 2) ∧ w'.cell? ⟨g, off + 6, none⟩ = some (.int .i64 2))
          (first | exact m0 | exact m1 | go_keep)
          (first
           | (go_at_call 7; refine (told_any _).mono ?_; rintro e w2 ⟨rfl, hb2⟩; have hB2 : Below w1.heap.size w1 w2 := bel_then (Below.refl _ _).drew hb2; have m1 := HS1.out w2 hB2))
        all_goals (go_wp2_with (fail))
        all_goals (go_ret)
        all_goals (exact ⟨rfl, bel_then HC.out.2 (bel_new hB2 _)⟩)

set_option maxHeartbeats 8000000 in
set_option maxRecDepth 1000000 in
theorem kinds_sign1 (c b : Int) (w : World) (hc : 0 ≤ c ∧ c < 256) (hb : b = c % 95 + 32) (h : isSign b = true) (hr : b < 48) : Calls Try.prog 6 #[.int .u8 c] w (KindsEnd w) := by
  have hbr : 32 ≤ b ∧ b ≤ 126 := by omega
  obtain ⟨S, hS⟩ : ∃ S, S = (⟨#[97, 32]⟩ : ByteArray) ++ strOfNums [b] ++ (⟨#[32, 49]⟩ : ByteArray) := ⟨_, rfl⟩
  have hT := kText b (by omega)
  have hCut := kCut b
  rw [← hS] at hT hCut
  have hSz : S.size ≤ 100 := by rw [← sb_len, hT]; simp
  have hall := fun w => wordAll_any S w (by omega)
  unfold AllPost at hall
  rw [hT, k_rs hbr (k_one (by decide) (wd_sign h))] at hall
  simp only at hall
  have hcv := fun w => conv_lit w [b] 1 rfl (by decide)
  simp only [List.map_cons, List.map_nil] at hcv
  have hs12 : decide (b ∈ signs.take 12) = true := h
  have HH := Lib.hid (And.intro hall (And.intro hb (And.intro hS (And.intro hCut hs12))))
  have hmod : c % 95 + 32 ≤ 126 := by omega
  have hmod0 : 32 ≤ c % 95 + 32 := by omega
  have y0 := (sign_cases h).2.2.1
  have y1 := (sign_cases h).2.2.2.2.2.1
  have x0 : (b == 32) = false := by simp; omega
  have x3 : (b == 35) = false := by simp; omega
  have x1 : decide (97 ≤ b) = false := by simp; omega
  have x2 : decide (48 ≤ b) = false := by simp; omega
  clear hall hS hT hCut hb hs12 h y0 y1
  go_enter Try.func6, Try.ntmps6
  go_upto_region 1 with (fail)
  go_cut [3] (fun s3 wc => s3 = .int .u8 b ∧ wc = w)
  case first =>
    go_wp2_with fail
    go_meet
    exact ⟨by rw [HH.out.2.1]; try rfl, rfl⟩
  case rest =>
    obtain ⟨rfl, rfl⟩ := hcut
    go_wp2_with fail
    rw [← HH.out.2.2.1]
    refine (HH.out.1 _).mono ?_
    rintro e w1 ⟨u1, rfl, hown1, hb1⟩
    have hB1 : Below wc.heap.size wc w1 := bel_then (bel_new (Below.refl _ _) _) hb1
    obtain ⟨g, off, cap, rfl, hgl, hcl⟩ := (Row.owned hown1).cells (by decide)
    have HC := Lib.hid (And.intro hcl hB1)
    clear hown1 hb1 hcl hB1
    go_wp2_with fail
    go_loop [7, 8] (fun sg i => ∃ k : Nat, k ≤ 12 ∧ i = .int .i64 k ∧ sg = .bool (decide (b ∈ signs.take k))) (fun _ i => 12 - (intOf i).toNat)
    case atStart => exact ⟨0, by omega, rfl, rfl⟩
    case round =>
      obtain ⟨k, hk, rfl, rfl⟩ := hrel
      by_cases hkt : k < 12
      · have hts := take_sign b k hkt
        have hsb := sign_byte k hkt
        have hd : decide ((k : Int) < 12) = true := by simp; omega
        cases hsg : decide (b ∈ signs.take k) with
        | true =>
          rw [hsg, Bool.true_or] at hts
          have HT := Lib.hid hts
          clear hts hsb hsg
          go_wp2
          go_round
          case rel => exact ⟨k + 1, by omega, by go_num, by rw [HT.out]⟩
          case measure => simp [intOf]; omega
        | false =>
          rw [hsg, Bool.false_or] at hts
          have ht : (((((⟨#[123, 125, 40, 41, 124, 42, 94, 60, 62, 58, 95, 61]⟩ : ByteArray)[k]'hkt).toNat : Int)) == b) = decide (signs.getD k 0 = b) := by rw [hsb]; rfl
          have hii : (0 : Int) ≤ (k : Int) := by omega
          have hij : (k : Int) < 12 := by omega
          cases hq : decide (signs.getD k 0 = b) with
          | true =>
            rw [hq] at ht hts
            have HT := Lib.hid hts
            clear hts hsb hsg hq
            go_wp2
            go_round
            case rel => exact ⟨k + 1, by omega, by go_num, by rw [HT.out]⟩
            case measure => simp [intOf]; omega
          | false =>
            rw [hq] at ht hts
            have HT := Lib.hid hts
            clear hts hsb hsg hq
            go_wp2
            go_round
            case rel => exact ⟨k + 1, by omega, by go_num, by rw [HT.out]⟩
            case measure => simp [intOf]; omega
      · have hkn : k = 12 := by omega
        subst hkn
        rw [HH.out.2.2.2.2]
        have hS1 : ∀ w2, Below w1.heap.size w1 w2 → w2.cell? ⟨g, off + 3, none⟩ = some (.int .i64 3) ∧ w2.cell? ⟨g, off + 4, none⟩ = some (.string (strOfNums [b])) ∧ w2.cell? ⟨g, off + 5, none⟩ = some (.int .i64 2) ∧ w2.cell? ⟨g, off + 6, none⟩ = some (.int .i64 2) := by
          intro w2 hb2
          have q := HC.out.1
          have hx := HH.out.2.2.2.1
          refine ⟨?_, ?_, ?_, ?_⟩
          · rw [hb2.cell hgl]; exact q 3 _ rfl
          · rw [hb2.cell hgl]; exact q 4 _ (by rw [← hx]; rfl)
          · rw [hb2.cell hgl]; exact q 5 _ rfl
          · rw [hb2.cell hgl]; exact q 6 _ rfl
        have HS1 := Lib.hid hS1
        have m0 := hS1 w1.drew (Below.refl _ _).drew
        have hse := strEq (strOfNums [b])
        clear hS1
        go_wp2_with fail
        go_region_held (fun w' => w'.cell? ⟨g, off + 3, none⟩ = some (.int .i64 3) ∧ w'.cell? ⟨g, off + 4, none⟩ = some (.string (strOfNums [b])) ∧ w'.cell? ⟨g, off + 5, none⟩ = some (.int .i64 2) ∧ w'.cell? ⟨g, off + 6, none⟩ = some (.int .i64 2))
          (first | exact m0 | exact m1 | go_keep)
          (first
           | (go_at_call 7; refine (told_any _).mono ?_; rintro e w2 ⟨rfl, hb2⟩; have hB2 : Below w1.heap.size w1 w2 := bel_then (Below.refl _ _).drew hb2; have m1 := HS1.out w2 hB2))
        all_goals (go_wp2_with (fail))
        all_goals (go_ret)
        all_goals (exact ⟨rfl, bel_then HC.out.2 (bel_new hB2 _)⟩)

set_option maxHeartbeats 8000000 in
set_option maxRecDepth 1000000 in
theorem kinds_nix1 (c b : Int) (w : World) (hc : 0 ≤ c ∧ c < 256) (hb : b = c % 95 + 32) (h1 : isLow b = false) (h2 : isDig b = false) (h3 : isSign b = false) (h4 : b ≠ 32) (h5 : b ≠ 35) (hr : b < 48) : Calls Try.prog 6 #[.int .u8 c] w (KindsEnd w) := by
  have hbr : 32 ≤ b ∧ b ≤ 126 := by omega
  obtain ⟨S, hS⟩ : ∃ S, S = (⟨#[97, 32]⟩ : ByteArray) ++ strOfNums [b] ++ (⟨#[32, 49]⟩ : ByteArray) := ⟨_, rfl⟩
  have hT := kText b (by omega)
  have hCut := kCut b
  rw [← hS] at hT hCut
  have hSz : S.size ≤ 100 := by rw [← sb_len, hT]; simp
  have hall := fun w => wordAll_any S w (by omega)
  unfold AllPost at hall
  rw [hT, k_bad hbr (wd_nix hbr h1 h2 h3 h4 h5)] at hall
  simp only at hall
  have hcv := fun w => conv_lit w [b] 1 rfl (by decide)
  simp only [List.map_cons, List.map_nil] at hcv
  have hs12 : decide (b ∈ signs.take 12) = false := h3
  have HH := Lib.hid (And.intro hall (And.intro hb (And.intro hS (And.intro hCut hs12))))
  have hmod : c % 95 + 32 ≤ 126 := by omega
  have hmod0 : 32 ≤ c % 95 + 32 := by omega
  have x0 : (b == 32) = false := by simp; omega
  have x3 : (b == 35) = false := by simp; omega
  have x1 : decide (97 ≤ b) = false := by simp; omega
  have x2 : decide (48 ≤ b) = false := by simp; omega
  clear hall hS hT hCut hb hs12 h1 h2 h3 h4 h5
  go_enter Try.func6, Try.ntmps6
  go_upto_region 1 with (fail)
  go_cut [3] (fun s3 wc => s3 = .int .u8 b ∧ wc = w)
  case first =>
    go_wp2_with fail
    go_meet
    exact ⟨by rw [HH.out.2.1]; try rfl, rfl⟩
  case rest =>
    obtain ⟨rfl, rfl⟩ := hcut
    go_wp2_with fail
    rw [← HH.out.2.2.1]
    refine (HH.out.1 _).mono ?_
    rintro e w1 ⟨rfl, hb1⟩
    have hB1 : Below wc.heap.size wc w1 := bel_then (bel_new (Below.refl _ _) _) hb1
    have HC := Lib.hid hB1
    clear hb1 hB1
    go_wp2_with fail
    go_loop [7, 8] (fun sg i => ∃ k : Nat, k ≤ 12 ∧ i = .int .i64 k ∧ sg = .bool (decide (b ∈ signs.take k))) (fun _ i => 12 - (intOf i).toNat)
    case atStart => exact ⟨0, by omega, rfl, rfl⟩
    case round =>
      obtain ⟨k, hk, rfl, rfl⟩ := hrel
      by_cases hkt : k < 12
      · have hts := take_sign b k hkt
        have hsb := sign_byte k hkt
        have hd : decide ((k : Int) < 12) = true := by simp; omega
        cases hsg : decide (b ∈ signs.take k) with
        | true =>
          rw [hsg, Bool.true_or] at hts
          have HT := Lib.hid hts
          clear hts hsb hsg
          go_wp2
          go_round
          case rel => exact ⟨k + 1, by omega, by go_num, by rw [HT.out]⟩
          case measure => simp [intOf]; omega
        | false =>
          rw [hsg, Bool.false_or] at hts
          have ht : (((((⟨#[123, 125, 40, 41, 124, 42, 94, 60, 62, 58, 95, 61]⟩ : ByteArray)[k]'hkt).toNat : Int)) == b) = decide (signs.getD k 0 = b) := by rw [hsb]; rfl
          have hii : (0 : Int) ≤ (k : Int) := by omega
          have hij : (k : Int) < 12 := by omega
          cases hq : decide (signs.getD k 0 = b) with
          | true =>
            rw [hq] at ht hts
            have HT := Lib.hid hts
            clear hts hsb hsg hq
            go_wp2
            go_round
            case rel => exact ⟨k + 1, by omega, by go_num, by rw [HT.out]⟩
            case measure => simp [intOf]; omega
          | false =>
            rw [hq] at ht hts
            have HT := Lib.hid hts
            clear hts hsb hsg hq
            go_wp2
            go_round
            case rel => exact ⟨k + 1, by omega, by go_num, by rw [HT.out]⟩
            case measure => simp [intOf]; omega
      · have hkn : k = 12 := by omega
        subst hkn
        rw [HH.out.2.2.2.2]
        go_wp2_with (go_at_call 7; refine (told_any _).mono ?_; rintro e w4 ⟨rfl, hb4⟩)
        go_ret
        exact ⟨rfl, bel_then HC.out hb4⟩

set_option maxHeartbeats 8000000 in
set_option maxRecDepth 1000000 in
theorem kinds_sign2 (c b : Int) (w : World) (hc : 0 ≤ c ∧ c < 256) (hb : b = c % 95 + 32) (h : isSign b = true) (hr : 57 < b ∧ b < 97) : Calls Try.prog 6 #[.int .u8 c] w (KindsEnd w) := by
  have hbr : 32 ≤ b ∧ b ≤ 126 := by omega
  obtain ⟨S, hS⟩ : ∃ S, S = (⟨#[97, 32]⟩ : ByteArray) ++ strOfNums [b] ++ (⟨#[32, 49]⟩ : ByteArray) := ⟨_, rfl⟩
  have hT := kText b (by omega)
  have hCut := kCut b
  rw [← hS] at hT hCut
  have hSz : S.size ≤ 100 := by rw [← sb_len, hT]; simp
  have hall := fun w => wordAll_any S w (by omega)
  unfold AllPost at hall
  rw [hT, k_rs hbr (k_one (by decide) (wd_sign h))] at hall
  simp only at hall
  have hcv := fun w => conv_lit w [b] 1 rfl (by decide)
  simp only [List.map_cons, List.map_nil] at hcv
  have hs12 : decide (b ∈ signs.take 12) = true := h
  have HH := Lib.hid (And.intro hall (And.intro hb (And.intro hS (And.intro hCut hs12))))
  have hmod : c % 95 + 32 ≤ 126 := by omega
  have hmod0 : 32 ≤ c % 95 + 32 := by omega
  have y0 := (sign_cases h).2.2.1
  have y1 := (sign_cases h).2.2.2.2.2.1
  have x0 : (b == 32) = false := by simp; omega
  have x3 : (b == 35) = false := by simp; omega
  have x1 : decide (97 ≤ b) = false := by simp; omega
  have x2 : decide (48 ≤ b) = true := by simp; omega
  have x2b : decide (b ≤ 57) = false := by simp; omega
  clear hall hS hT hCut hb hs12 h y0 y1
  go_enter Try.func6, Try.ntmps6
  go_upto_region 1 with (fail)
  go_cut [3] (fun s3 wc => s3 = .int .u8 b ∧ wc = w)
  case first =>
    go_wp2_with fail
    go_meet
    exact ⟨by rw [HH.out.2.1]; try rfl, rfl⟩
  case rest =>
    obtain ⟨rfl, rfl⟩ := hcut
    go_wp2_with fail
    rw [← HH.out.2.2.1]
    refine (HH.out.1 _).mono ?_
    rintro e w1 ⟨u1, rfl, hown1, hb1⟩
    have hB1 : Below wc.heap.size wc w1 := bel_then (bel_new (Below.refl _ _) _) hb1
    obtain ⟨g, off, cap, rfl, hgl, hcl⟩ := (Row.owned hown1).cells (by decide)
    have HC := Lib.hid (And.intro hcl hB1)
    clear hown1 hb1 hcl hB1
    go_wp2_with fail
    go_loop [7, 8] (fun sg i => ∃ k : Nat, k ≤ 12 ∧ i = .int .i64 k ∧ sg = .bool (decide (b ∈ signs.take k))) (fun _ i => 12 - (intOf i).toNat)
    case atStart => exact ⟨0, by omega, rfl, rfl⟩
    case round =>
      obtain ⟨k, hk, rfl, rfl⟩ := hrel
      by_cases hkt : k < 12
      · have hts := take_sign b k hkt
        have hsb := sign_byte k hkt
        have hd : decide ((k : Int) < 12) = true := by simp; omega
        cases hsg : decide (b ∈ signs.take k) with
        | true =>
          rw [hsg, Bool.true_or] at hts
          have HT := Lib.hid hts
          clear hts hsb hsg
          go_wp2
          go_round
          case rel => exact ⟨k + 1, by omega, by go_num, by rw [HT.out]⟩
          case measure => simp [intOf]; omega
        | false =>
          rw [hsg, Bool.false_or] at hts
          have ht : (((((⟨#[123, 125, 40, 41, 124, 42, 94, 60, 62, 58, 95, 61]⟩ : ByteArray)[k]'hkt).toNat : Int)) == b) = decide (signs.getD k 0 = b) := by rw [hsb]; rfl
          have hii : (0 : Int) ≤ (k : Int) := by omega
          have hij : (k : Int) < 12 := by omega
          cases hq : decide (signs.getD k 0 = b) with
          | true =>
            rw [hq] at ht hts
            have HT := Lib.hid hts
            clear hts hsb hsg hq
            go_wp2
            go_round
            case rel => exact ⟨k + 1, by omega, by go_num, by rw [HT.out]⟩
            case measure => simp [intOf]; omega
          | false =>
            rw [hq] at ht hts
            have HT := Lib.hid hts
            clear hts hsb hsg hq
            go_wp2
            go_round
            case rel => exact ⟨k + 1, by omega, by go_num, by rw [HT.out]⟩
            case measure => simp [intOf]; omega
      · have hkn : k = 12 := by omega
        subst hkn
        rw [HH.out.2.2.2.2]
        have hS1 : ∀ w2, Below w1.heap.size w1 w2 → w2.cell? ⟨g, off + 3, none⟩ = some (.int .i64 3) ∧ w2.cell? ⟨g, off + 4, none⟩ = some (.string (strOfNums [b])) ∧ w2.cell? ⟨g, off + 5, none⟩ = some (.int .i64 2) ∧ w2.cell? ⟨g, off + 6, none⟩ = some (.int .i64 2) := by
          intro w2 hb2
          have q := HC.out.1
          have hx := HH.out.2.2.2.1
          refine ⟨?_, ?_, ?_, ?_⟩
          · rw [hb2.cell hgl]; exact q 3 _ rfl
          · rw [hb2.cell hgl]; exact q 4 _ (by rw [← hx]; rfl)
          · rw [hb2.cell hgl]; exact q 5 _ rfl
          · rw [hb2.cell hgl]; exact q 6 _ rfl
        have HS1 := Lib.hid hS1
        have m0 := hS1 w1.drew (Below.refl _ _).drew
        have hse := strEq (strOfNums [b])
        clear hS1
        go_wp2_with fail
        go_region_held (fun w' => w'.cell? ⟨g, off + 3, none⟩ = some (.int .i64 3) ∧ w'.cell? ⟨g, off + 4, none⟩ = some (.string (strOfNums [b])) ∧ w'.cell? ⟨g, off + 5, none⟩ = some (.int .i64 2) ∧ w'.cell? ⟨g, off + 6, none⟩ = some (.int .i64 2))
          (first | exact m0 | exact m1 | go_keep)
          (first
           | (go_at_call 7; refine (told_any _).mono ?_; rintro e w2 ⟨rfl, hb2⟩; have hB2 : Below w1.heap.size w1 w2 := bel_then (Below.refl _ _).drew hb2; have m1 := HS1.out w2 hB2))
        all_goals (go_wp2_with (fail))
        all_goals (go_ret)
        all_goals (exact ⟨rfl, bel_then HC.out.2 (bel_new hB2 _)⟩)

set_option maxHeartbeats 8000000 in
set_option maxRecDepth 1000000 in
theorem kinds_nix2 (c b : Int) (w : World) (hc : 0 ≤ c ∧ c < 256) (hb : b = c % 95 + 32) (h1 : isLow b = false) (h2 : isDig b = false) (h3 : isSign b = false) (h4 : b ≠ 32) (h5 : b ≠ 35) (hr : 57 < b ∧ b < 97) : Calls Try.prog 6 #[.int .u8 c] w (KindsEnd w) := by
  have hbr : 32 ≤ b ∧ b ≤ 126 := by omega
  obtain ⟨S, hS⟩ : ∃ S, S = (⟨#[97, 32]⟩ : ByteArray) ++ strOfNums [b] ++ (⟨#[32, 49]⟩ : ByteArray) := ⟨_, rfl⟩
  have hT := kText b (by omega)
  have hCut := kCut b
  rw [← hS] at hT hCut
  have hSz : S.size ≤ 100 := by rw [← sb_len, hT]; simp
  have hall := fun w => wordAll_any S w (by omega)
  unfold AllPost at hall
  rw [hT, k_bad hbr (wd_nix hbr h1 h2 h3 h4 h5)] at hall
  simp only at hall
  have hcv := fun w => conv_lit w [b] 1 rfl (by decide)
  simp only [List.map_cons, List.map_nil] at hcv
  have hs12 : decide (b ∈ signs.take 12) = false := h3
  have HH := Lib.hid (And.intro hall (And.intro hb (And.intro hS (And.intro hCut hs12))))
  have hmod : c % 95 + 32 ≤ 126 := by omega
  have hmod0 : 32 ≤ c % 95 + 32 := by omega
  have x0 : (b == 32) = false := by simp; omega
  have x3 : (b == 35) = false := by simp; omega
  have x1 : decide (97 ≤ b) = false := by simp; omega
  have x2 : decide (48 ≤ b) = true := by simp; omega
  have x2b : decide (b ≤ 57) = false := by simp; omega
  clear hall hS hT hCut hb hs12 h1 h2 h3 h4 h5
  go_enter Try.func6, Try.ntmps6
  go_upto_region 1 with (fail)
  go_cut [3] (fun s3 wc => s3 = .int .u8 b ∧ wc = w)
  case first =>
    go_wp2_with fail
    go_meet
    exact ⟨by rw [HH.out.2.1]; try rfl, rfl⟩
  case rest =>
    obtain ⟨rfl, rfl⟩ := hcut
    go_wp2_with fail
    rw [← HH.out.2.2.1]
    refine (HH.out.1 _).mono ?_
    rintro e w1 ⟨rfl, hb1⟩
    have hB1 : Below wc.heap.size wc w1 := bel_then (bel_new (Below.refl _ _) _) hb1
    have HC := Lib.hid hB1
    clear hb1 hB1
    go_wp2_with fail
    go_loop [7, 8] (fun sg i => ∃ k : Nat, k ≤ 12 ∧ i = .int .i64 k ∧ sg = .bool (decide (b ∈ signs.take k))) (fun _ i => 12 - (intOf i).toNat)
    case atStart => exact ⟨0, by omega, rfl, rfl⟩
    case round =>
      obtain ⟨k, hk, rfl, rfl⟩ := hrel
      by_cases hkt : k < 12
      · have hts := take_sign b k hkt
        have hsb := sign_byte k hkt
        have hd : decide ((k : Int) < 12) = true := by simp; omega
        cases hsg : decide (b ∈ signs.take k) with
        | true =>
          rw [hsg, Bool.true_or] at hts
          have HT := Lib.hid hts
          clear hts hsb hsg
          go_wp2
          go_round
          case rel => exact ⟨k + 1, by omega, by go_num, by rw [HT.out]⟩
          case measure => simp [intOf]; omega
        | false =>
          rw [hsg, Bool.false_or] at hts
          have ht : (((((⟨#[123, 125, 40, 41, 124, 42, 94, 60, 62, 58, 95, 61]⟩ : ByteArray)[k]'hkt).toNat : Int)) == b) = decide (signs.getD k 0 = b) := by rw [hsb]; rfl
          have hii : (0 : Int) ≤ (k : Int) := by omega
          have hij : (k : Int) < 12 := by omega
          cases hq : decide (signs.getD k 0 = b) with
          | true =>
            rw [hq] at ht hts
            have HT := Lib.hid hts
            clear hts hsb hsg hq
            go_wp2
            go_round
            case rel => exact ⟨k + 1, by omega, by go_num, by rw [HT.out]⟩
            case measure => simp [intOf]; omega
          | false =>
            rw [hq] at ht hts
            have HT := Lib.hid hts
            clear hts hsb hsg hq
            go_wp2
            go_round
            case rel => exact ⟨k + 1, by omega, by go_num, by rw [HT.out]⟩
            case measure => simp [intOf]; omega
      · have hkn : k = 12 := by omega
        subst hkn
        rw [HH.out.2.2.2.2]
        go_wp2_with (go_at_call 7; refine (told_any _).mono ?_; rintro e w4 ⟨rfl, hb4⟩)
        go_ret
        exact ⟨rfl, bel_then HC.out hb4⟩

set_option maxHeartbeats 8000000 in
set_option maxRecDepth 1000000 in
theorem kinds_sign3 (c b : Int) (w : World) (hc : 0 ≤ c ∧ c < 256) (hb : b = c % 95 + 32) (h : isSign b = true) (hr : 122 < b) : Calls Try.prog 6 #[.int .u8 c] w (KindsEnd w) := by
  have hbr : 32 ≤ b ∧ b ≤ 126 := by omega
  obtain ⟨S, hS⟩ : ∃ S, S = (⟨#[97, 32]⟩ : ByteArray) ++ strOfNums [b] ++ (⟨#[32, 49]⟩ : ByteArray) := ⟨_, rfl⟩
  have hT := kText b (by omega)
  have hCut := kCut b
  rw [← hS] at hT hCut
  have hSz : S.size ≤ 100 := by rw [← sb_len, hT]; simp
  have hall := fun w => wordAll_any S w (by omega)
  unfold AllPost at hall
  rw [hT, k_rs hbr (k_one (by decide) (wd_sign h))] at hall
  simp only at hall
  have hcv := fun w => conv_lit w [b] 1 rfl (by decide)
  simp only [List.map_cons, List.map_nil] at hcv
  have hs12 : decide (b ∈ signs.take 12) = true := h
  have HH := Lib.hid (And.intro hall (And.intro hb (And.intro hS (And.intro hCut hs12))))
  have hmod : c % 95 + 32 ≤ 126 := by omega
  have hmod0 : 32 ≤ c % 95 + 32 := by omega
  have y0 := (sign_cases h).2.2.1
  have y1 := (sign_cases h).2.2.2.2.2.1
  have x0 : (b == 32) = false := by simp; omega
  have x3 : (b == 35) = false := by simp; omega
  have x1 : decide (97 ≤ b) = true := by simp; omega
  have x1b : decide (b ≤ 122) = false := by simp; omega
  have x2 : decide (48 ≤ b) = true := by simp; omega
  have x2b : decide (b ≤ 57) = false := by simp; omega
  clear hall hS hT hCut hb hs12 h y0 y1
  go_enter Try.func6, Try.ntmps6
  go_upto_region 1 with (fail)
  go_cut [3] (fun s3 wc => s3 = .int .u8 b ∧ wc = w)
  case first =>
    go_wp2_with fail
    go_meet
    exact ⟨by rw [HH.out.2.1]; try rfl, rfl⟩
  case rest =>
    obtain ⟨rfl, rfl⟩ := hcut
    go_wp2_with fail
    rw [← HH.out.2.2.1]
    refine (HH.out.1 _).mono ?_
    rintro e w1 ⟨u1, rfl, hown1, hb1⟩
    have hB1 : Below wc.heap.size wc w1 := bel_then (bel_new (Below.refl _ _) _) hb1
    obtain ⟨g, off, cap, rfl, hgl, hcl⟩ := (Row.owned hown1).cells (by decide)
    have HC := Lib.hid (And.intro hcl hB1)
    clear hown1 hb1 hcl hB1
    go_wp2_with fail
    go_loop [7, 8] (fun sg i => ∃ k : Nat, k ≤ 12 ∧ i = .int .i64 k ∧ sg = .bool (decide (b ∈ signs.take k))) (fun _ i => 12 - (intOf i).toNat)
    case atStart => exact ⟨0, by omega, rfl, rfl⟩
    case round =>
      obtain ⟨k, hk, rfl, rfl⟩ := hrel
      by_cases hkt : k < 12
      · have hts := take_sign b k hkt
        have hsb := sign_byte k hkt
        have hd : decide ((k : Int) < 12) = true := by simp; omega
        cases hsg : decide (b ∈ signs.take k) with
        | true =>
          rw [hsg, Bool.true_or] at hts
          have HT := Lib.hid hts
          clear hts hsb hsg
          go_wp2
          go_round
          case rel => exact ⟨k + 1, by omega, by go_num, by rw [HT.out]⟩
          case measure => simp [intOf]; omega
        | false =>
          rw [hsg, Bool.false_or] at hts
          have ht : (((((⟨#[123, 125, 40, 41, 124, 42, 94, 60, 62, 58, 95, 61]⟩ : ByteArray)[k]'hkt).toNat : Int)) == b) = decide (signs.getD k 0 = b) := by rw [hsb]; rfl
          have hii : (0 : Int) ≤ (k : Int) := by omega
          have hij : (k : Int) < 12 := by omega
          cases hq : decide (signs.getD k 0 = b) with
          | true =>
            rw [hq] at ht hts
            have HT := Lib.hid hts
            clear hts hsb hsg hq
            go_wp2
            go_round
            case rel => exact ⟨k + 1, by omega, by go_num, by rw [HT.out]⟩
            case measure => simp [intOf]; omega
          | false =>
            rw [hq] at ht hts
            have HT := Lib.hid hts
            clear hts hsb hsg hq
            go_wp2
            go_round
            case rel => exact ⟨k + 1, by omega, by go_num, by rw [HT.out]⟩
            case measure => simp [intOf]; omega
      · have hkn : k = 12 := by omega
        subst hkn
        rw [HH.out.2.2.2.2]
        have hS1 : ∀ w2, Below w1.heap.size w1 w2 → w2.cell? ⟨g, off + 3, none⟩ = some (.int .i64 3) ∧ w2.cell? ⟨g, off + 4, none⟩ = some (.string (strOfNums [b])) ∧ w2.cell? ⟨g, off + 5, none⟩ = some (.int .i64 2) ∧ w2.cell? ⟨g, off + 6, none⟩ = some (.int .i64 2) := by
          intro w2 hb2
          have q := HC.out.1
          have hx := HH.out.2.2.2.1
          refine ⟨?_, ?_, ?_, ?_⟩
          · rw [hb2.cell hgl]; exact q 3 _ rfl
          · rw [hb2.cell hgl]; exact q 4 _ (by rw [← hx]; rfl)
          · rw [hb2.cell hgl]; exact q 5 _ rfl
          · rw [hb2.cell hgl]; exact q 6 _ rfl
        have HS1 := Lib.hid hS1
        have m0 := hS1 w1.drew (Below.refl _ _).drew
        have hse := strEq (strOfNums [b])
        clear hS1
        go_wp2_with fail
        go_region_held (fun w' => w'.cell? ⟨g, off + 3, none⟩ = some (.int .i64 3) ∧ w'.cell? ⟨g, off + 4, none⟩ = some (.string (strOfNums [b])) ∧ w'.cell? ⟨g, off + 5, none⟩ = some (.int .i64 2) ∧ w'.cell? ⟨g, off + 6, none⟩ = some (.int .i64 2))
          (first | exact m0 | exact m1 | go_keep)
          (first
           | (go_at_call 7; refine (told_any _).mono ?_; rintro e w2 ⟨rfl, hb2⟩; have hB2 : Below w1.heap.size w1 w2 := bel_then (Below.refl _ _).drew hb2; have m1 := HS1.out w2 hB2))
        all_goals (go_wp2_with (fail))
        all_goals (go_ret)
        all_goals (exact ⟨rfl, bel_then HC.out.2 (bel_new hB2 _)⟩)

set_option maxHeartbeats 8000000 in
set_option maxRecDepth 1000000 in
theorem kinds_nix3 (c b : Int) (w : World) (hc : 0 ≤ c ∧ c < 256) (hb : b = c % 95 + 32) (h1 : isLow b = false) (h2 : isDig b = false) (h3 : isSign b = false) (h4 : b ≠ 32) (h5 : b ≠ 35) (hr : 122 < b) : Calls Try.prog 6 #[.int .u8 c] w (KindsEnd w) := by
  have hbr : 32 ≤ b ∧ b ≤ 126 := by omega
  obtain ⟨S, hS⟩ : ∃ S, S = (⟨#[97, 32]⟩ : ByteArray) ++ strOfNums [b] ++ (⟨#[32, 49]⟩ : ByteArray) := ⟨_, rfl⟩
  have hT := kText b (by omega)
  have hCut := kCut b
  rw [← hS] at hT hCut
  have hSz : S.size ≤ 100 := by rw [← sb_len, hT]; simp
  have hall := fun w => wordAll_any S w (by omega)
  unfold AllPost at hall
  rw [hT, k_bad hbr (wd_nix hbr h1 h2 h3 h4 h5)] at hall
  simp only at hall
  have hcv := fun w => conv_lit w [b] 1 rfl (by decide)
  simp only [List.map_cons, List.map_nil] at hcv
  have hs12 : decide (b ∈ signs.take 12) = false := h3
  have HH := Lib.hid (And.intro hall (And.intro hb (And.intro hS (And.intro hCut hs12))))
  have hmod : c % 95 + 32 ≤ 126 := by omega
  have hmod0 : 32 ≤ c % 95 + 32 := by omega
  have x0 : (b == 32) = false := by simp; omega
  have x3 : (b == 35) = false := by simp; omega
  have x1 : decide (97 ≤ b) = true := by simp; omega
  have x1b : decide (b ≤ 122) = false := by simp; omega
  have x2 : decide (48 ≤ b) = true := by simp; omega
  have x2b : decide (b ≤ 57) = false := by simp; omega
  clear hall hS hT hCut hb hs12 h1 h2 h3 h4 h5
  go_enter Try.func6, Try.ntmps6
  go_upto_region 1 with (fail)
  go_cut [3] (fun s3 wc => s3 = .int .u8 b ∧ wc = w)
  case first =>
    go_wp2_with fail
    go_meet
    exact ⟨by rw [HH.out.2.1]; try rfl, rfl⟩
  case rest =>
    obtain ⟨rfl, rfl⟩ := hcut
    go_wp2_with fail
    rw [← HH.out.2.2.1]
    refine (HH.out.1 _).mono ?_
    rintro e w1 ⟨rfl, hb1⟩
    have hB1 : Below wc.heap.size wc w1 := bel_then (bel_new (Below.refl _ _) _) hb1
    have HC := Lib.hid hB1
    clear hb1 hB1
    go_wp2_with fail
    go_loop [7, 8] (fun sg i => ∃ k : Nat, k ≤ 12 ∧ i = .int .i64 k ∧ sg = .bool (decide (b ∈ signs.take k))) (fun _ i => 12 - (intOf i).toNat)
    case atStart => exact ⟨0, by omega, rfl, rfl⟩
    case round =>
      obtain ⟨k, hk, rfl, rfl⟩ := hrel
      by_cases hkt : k < 12
      · have hts := take_sign b k hkt
        have hsb := sign_byte k hkt
        have hd : decide ((k : Int) < 12) = true := by simp; omega
        cases hsg : decide (b ∈ signs.take k) with
        | true =>
          rw [hsg, Bool.true_or] at hts
          have HT := Lib.hid hts
          clear hts hsb hsg
          go_wp2
          go_round
          case rel => exact ⟨k + 1, by omega, by go_num, by rw [HT.out]⟩
          case measure => simp [intOf]; omega
        | false =>
          rw [hsg, Bool.false_or] at hts
          have ht : (((((⟨#[123, 125, 40, 41, 124, 42, 94, 60, 62, 58, 95, 61]⟩ : ByteArray)[k]'hkt).toNat : Int)) == b) = decide (signs.getD k 0 = b) := by rw [hsb]; rfl
          have hii : (0 : Int) ≤ (k : Int) := by omega
          have hij : (k : Int) < 12 := by omega
          cases hq : decide (signs.getD k 0 = b) with
          | true =>
            rw [hq] at ht hts
            have HT := Lib.hid hts
            clear hts hsb hsg hq
            go_wp2
            go_round
            case rel => exact ⟨k + 1, by omega, by go_num, by rw [HT.out]⟩
            case measure => simp [intOf]; omega
          | false =>
            rw [hq] at ht hts
            have HT := Lib.hid hts
            clear hts hsb hsg hq
            go_wp2
            go_round
            case rel => exact ⟨k + 1, by omega, by go_num, by rw [HT.out]⟩
            case measure => simp [intOf]; omega
      · have hkn : k = 12 := by omega
        subst hkn
        rw [HH.out.2.2.2.2]
        go_wp2_with (go_at_call 7; refine (told_any _).mono ?_; rintro e w4 ⟨rfl, hb4⟩)
        go_ret
        exact ⟨rfl, bel_then HC.out hb4⟩

theorem wordKinds_walk (c : Int) (wc : (Lit.int .u8 c).wf = true) (w : World) : Calls Try.prog 6 #[.int .u8 c] w fun e w' => e = .returned (.bool true) ∧ Below w.heap.size w w' := by
  have hc := u8_wf wc
  obtain ⟨b, hb⟩ : ∃ b, b = c % 95 + 32 := ⟨_, rfl⟩
  have hbr : 32 ≤ b ∧ b ≤ 126 := by omega
  by_cases h32 : b = 32
  · exact kinds_blank c b w hc hb h32
  by_cases h35 : b = 35
  · exact kinds_note c b w hc hb h35
  by_cases hl : 97 ≤ b ∧ b ≤ 122
  · exact kinds_low c b w hc hb (decide_eq_true hl) hl
  by_cases hd : 48 ≤ b ∧ b ≤ 57
  · exact kinds_dig c b w hc hb (decide_eq_true hd) hd
  have h1 : isLow b = false := decide_eq_false hl
  have h2 : isDig b = false := decide_eq_false hd
  cases h3 : isSign b with
  | true =>
    rcases (by omega : b < 48 ∨ (57 < b ∧ b < 97) ∨ 122 < b) with h | h | h
    · exact kinds_sign1 c b w hc hb h3 h
    · exact kinds_sign2 c b w hc hb h3 h
    · exact kinds_sign3 c b w hc hb h3 h
  | false =>
    rcases (by omega : b < 48 ∨ (57 < b ∧ b < 97) ∨ 122 < b) with h | h | h
    · exact kinds_nix1 c b w hc hb h1 h2 h3 h32 h35 h
    · exact kinds_nix2 c b w hc hb h1 h2 h3 h32 h35 h
    · exact kinds_nix3 c b w hc hb h1 h2 h3 h32 h35 h
end Go.Proofs.Ytkngppkchaadhaa
