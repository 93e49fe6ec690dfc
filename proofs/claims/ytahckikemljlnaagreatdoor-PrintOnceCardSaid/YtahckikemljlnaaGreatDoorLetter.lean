/- print.letter. -/
import Derived.Test.YtahckikemljlnaaGreatDoorRowsOf
import Derived.Test.YtahckikemljlnaaGreatDoorChecked
import Derived.Test.YtahckikemljlnaaGreatDoorProg
import Derived.WalkKit
import Derived.Lib.Hide
import Derived.Lib.SmallJoins
import Derived.IntWalk
import Derived.Deep.LoopGhost
import Derived.WalkLawsBesides
import Derived.Deep.DeepCutAuto
import Derived.Deep.CutBlock
import Derived.WalkSpells
import Derived.Lib.EndianBits
import Derived.WideShapes
import Derived.Laws.IdiomStrings
import Derived.Test.YtahckikemljlnaaGreatDoorPJoin
set_option linter.unusedVariables false
set_option linter.unusedSimpArgs false
namespace Go.Proofs.YtahckikemljlnaaGreatDoor
open Go.RowKit Go.Joins Go.Lib

def hexd (n : Nat) : UInt8 := if n < 10 then UInt8.ofNat (48 + n) else UInt8.ofNat (87 + n)
def hexN (n : Nat) : List UInt8 := if h : n < 16 then [hexd n] else hexN (n / 16) ++ [hexd (n % 16)]
theorem hexN_small {n : Nat} (h : n < 16) : hexN n = [hexd n] := by rw [hexN, dif_pos h]
theorem hexN_big {n : Nat} (h : ¬ n < 16) : hexN n = hexN (n / 16) ++ [hexd (n % 16)] := by rw [hexN, dif_neg h]
theorem digit_at : ∀ k : Nat, k < 16 → (⟨#[48, 49, 50, 51, 52, 53, 54, 55, 56, 57, 97, 98, 99, 100, 101, 102, 103, 104, 105, 106, 107, 108, 109, 110, 111, 112, 113, 114, 115, 116, 117, 118, 119, 120, 121, 122]⟩ : ByteArray).data.toList[k]? = some (hexd k) := by decide
theorem digit_is {k : Nat} (h : k < 16) (h2 : k < (⟨#[48, 49, 50, 51, 52, 53, 54, 55, 56, 57, 97, 98, 99, 100, 101, 102, 103, 104, 105, 106, 107, 108, 109, 110, 111, 112, 113, 114, 115, 116, 117, 118, 119, 120, 121, 122]⟩ : ByteArray).size) : ((⟨#[48, 49, 50, 51, 52, 53, 54, 55, 56, 57, 97, 98, 99, 100, 101, 102, 103, 104, 105, 106, 107, 108, 109, 110, 111, 112, 113, 114, 115, 116, 117, 118, 119, 120, 121, 122]⟩ : ByteArray)[k]'h2).toNat = (hexd k).toNat := by
  have h1 := digit_at k h
  have h3 : (⟨#[48, 49, 50, 51, 52, 53, 54, 55, 56, 57, 97, 98, 99, 100, 101, 102, 103, 104, 105, 106, 107, 108, 109, 110, 111, 112, 113, 114, 115, 116, 117, 118, 119, 120, 121, 122]⟩ : ByteArray).data.toList[k]? = some ((⟨#[48, 49, 50, 51, 52, 53, 54, 55, 56, 57, 97, 98, 99, 100, 101, 102, 103, 104, 105, 106, 107, 108, 109, 110, 111, 112, 113, 114, 115, 116, 117, 118, 119, 120, 121, 122]⟩ : ByteArray)[k]'h2) := by
    rw [Array.getElem?_toList]
    exact Array.getElem?_eq_getElem (xs := (⟨#[48, 49, 50, 51, 52, 53, 54, 55, 56, 57, 97, 98, 99, 100, 101, 102, 103, 104, 105, 106, 107, 108, 109, 110, 111, 112, 113, 114, 115, 116, 117, 118, 119, 120, 121, 122]⟩ : ByteArray).data) h2
  rw [h1] at h3
  rw [← Option.some.inj h3]
theorem arr_slice (w' : World) (b i : Nat) (hi : i < 65) : (Instr.sliceAt 247 (.pointer (some ⟨b, 0, none⟩)) (some (.int .i64 (i : Int))) none none).run Tryz.prog w' = .ok (.slice (some ⟨b, i, none⟩) (65 - i) (65 - i)) w' := by
  have hal : Tryz.prog.arrayLen 247 = 65 := by kernel_rfl
  have hel : Tryz.prog.elem 247 = 5 := by kernel_rfl
  rw [run_sliceAt_array_l w' 247 ⟨b, 0, none⟩ (by rw [hal, hel]; exact Tryz.underlying247) .i64 (i : Int) (by omega) (by rw [hal]; omega), hel, hal]
  have hs : (sizeOf 5).run Tryz.prog w' = .ok 1 w' := by kernel_rfl
  rw [hs]
  show Result.ok (slicedAt ⟨b, 0, none⟩ (i : Int).toNat 65 65 1) w' = _
  rw [Int.toNat_natCast, slicedAt, if_neg (by omega), Nat.mul_one, WideShapes.add_plain, Nat.zero_add]
set_option maxRecDepth 100000 in
set_option maxHeartbeats 1000000 in
theorem pow2_any (w : World) : Calls Tryz.prog 236 #[.int .i64 16] w fun e w' => e = .returned (.bool true) ∧ w' = w := by
  have h1 : Go.bits BinOp.and IntKind.i64 16 15 = 0 := by rfl
  go_enter Tryz.func236, Tryz.ntmps236
  go_wp2
  simp [bodyPost, results, Tryz.results236, go_sem]
set_option maxRecDepth 100000 in
set_option maxHeartbeats 1000000 in
theorem tz64_any (w : World) (hT : w.cell? ⟨8, 15, none⟩ = some (.int .u8 4)) : Calls Tryz.prog 256 #[.int .u64 16] w fun e w' => e = .returned (.int .i64 4) ∧ w' = w := by
  have e1 : IntKind.u64.wrap (-16) = 18446744073709551600 := by rfl
  have e2 : Go.bits BinOp.and IntKind.u64 16 18446744073709551600 = 16 := by rfl
  have e3 : IntKind.u64.wrap (16 * 285870213051353865) = 4573923408821661840 := by rfl
  have e4 : IntKind.u64.wrap 4573923408821661840 = 4573923408821661840 := by rfl
  go_enter Tryz.func256, Tryz.ntmps256
  go_wp2
  go_ret
  exact ⟨rfl, rfl⟩
set_option maxRecDepth 100000 in
set_option maxHeartbeats 1000000 in
theorem tz_any (w : World) (hT : w.cell? ⟨8, 15, none⟩ = some (.int .u8 4)) : Calls Tryz.prog 237 #[.int .u64 16] w fun e w' => e = .returned (.int .i64 4) ∧ w' = w := by
  go_enter Tryz.func237, Tryz.ntmps237
  go_wp2_with (go_at_call 256; refine (tz64_any _ hT).mono ?_; rintro e w2 ⟨rfl, rfl⟩)
  go_ret
  exact ⟨rfl, rfl⟩
set_option maxRecDepth 100000 in
set_option maxHeartbeats 8000000 in
theorem formatBits_any (n : Nat) (w : World) (hn : n < 2097152) (hlo : 8 < w.heap.size) (hT : w.cell? ⟨8, 15, none⟩ = some (.int .u8 4)) :
    Calls Tryz.prog 213 #[.slice none 0 0, .int .u64 (n : Int), .int .i64 16, .bool false, .bool false] w fun e w' => e = .returned (.tuple #[.slice none 0 0, .string ⟨(hexN n).toArray⟩]) ∧ Below w.heap.size w w' := by
  obtain ⟨A0, hA0⟩ : ∃ A, A = Tryz.zeroCells247 := ⟨_, rfl⟩
  have hA1 : A0.size = 65 := by rw [hA0]; kernel_rfl
  have HT := Lib.hid hT
  have HA := Lib.hid (And.intro hA0 hA1)
  go_enter Tryz.func213, Tryz.ntmps213
  go_wp2_with (first
    | (go_at_call 236; refine (pow2_any _).mono ?_; rintro e w2 ⟨rfl, rfl⟩)
    | (go_at_call 237; refine (tz_any _ (cell_later (bel_new (Below.refl _ _) _) hT)).mono ?_; rintro e w2 ⟨rfl, rfl⟩))
  rw [← hA0]
  clear hT hA0 hA1
  obtain ⟨wB, hwB⟩ : ∃ wB, wB = w.alloc (.cells A0 247) := ⟨_, rfl⟩
  have HWB := Lib.hid (show Below w.heap.size w wB ∧ wB.heap[w.heap.size]? = some (.cells A0 247 (0, 0)) by rw [hwB]; exact ⟨bel_new (Below.refl _ _) _, by simpa using heap_alloc_new w (.cells A0 247)⟩)
  rw [← hwB]
  clear hwB
  have HNN := Lib.hid hn
  clear hn
  go_loopg [1, 13] 6 (fun g s1 s13 wx => ∃ (k u i : Nat) (D : List UInt8), k + g = 6 ∧ D.length = k ∧ u * 16 ^ k ≤ n ∧ hexN n = hexN u ++ D ∧ i + k = 65 ∧ s1 = .int .u64 (u : Int) ∧ s13 = .int .i64 (i : Int) ∧ Below w.heap.size w wx ∧ ∃ A, wx.heap[w.heap.size]? = some (.cells A 247 (0, 0)) ∧ A.size = 65 ∧ ∀ j x, D[j]? = some x → A[i + j]? = some (.int .u8 (x.toNat : Int)))
  case atStart => exact ⟨0, n, 65, [], rfl, rfl, by simp, by simp, rfl, rfl, rfl, HWB.out.1, A0, HWB.out.2, HA.out.2, fun j x h => by simp at h⟩
  case round =>
    obtain ⟨k, u, i, D, hkg, hD, hu, hN, hik, rfl, rfl, hbel, A, hA, hsz, hcell⟩ := hrel
    have hpow : 1 ≤ 16 ^ k := Nat.pow_pos (by decide)
    have hu2 : u < 2097152 := by
      have h1 : u * 1 ≤ u * 16 ^ k := Nat.mul_le_mul_left u hpow
      have := HNN.out; omega
    have HX := Lib.hid (And.intro hD (And.intro hu (And.intro hN (And.intro hbel (And.intro hA (And.intro hsz hcell))))))
    obtain ⟨v0, hc0⟩ : ∃ v, wr.cell? ⟨w.heap.size, i - 1, none⟩ = some v := ⟨A[i - 1]'(by have := HX.out.2.2.2.2.2.1; omega), by rw [cell_of_block hA, Array.getElem?_eq_getElem]⟩
    have hf0 : wr.frozen? ⟨w.heap.size, i - 1, none⟩ = false := unfrozen_of_block hA _
    have hk6 : k ≤ 6 := by omega
    have hi1 : (0 : Int) ≤ (i : Int) - 1 := by omega
    have hi2 : (i : Int) - 1 < 65 := by omega
    have hi3 : IntKind.i64.wrap ((i : Int) - 1) = (i : Int) - 1 := IntWalk.i64_in _ (by omega)
    by_cases h16 : u < 16
    · have d1 : decide ((16 : Int) ≤ (u : Int)) = false := by simp; omega
      have d2 : decide (16 ≤ u) = false := by simp; omega
      have hdg := digit_is h16 (by show u < 36; omega)
      have hd0 : (0 : Int) ≤ (u : Int) := by omega
      have hd9 : (u : Int) < 36 := by omega
      clear hcell hA hsz hN hu hbel hD
      go_upto_region 30 with (fail)
      obtain ⟨w2, hw2⟩ : ∃ w2, w2 = wr.setCell ⟨w.heap.size, i - 1, none⟩ (.int .u8 ((hexd u).toNat : Int)) := ⟨_, rfl⟩
      rw [← hw2]
      have hsl : ∀ w', (Instr.sliceAt 247 (.pointer (some ⟨w.heap.size, 0, none⟩)) (some (.int .i64 ((i : Int) - 1))) none none).run Tryz.prog w' = .ok (.slice (some ⟨w.heap.size, i - 1, none⟩) (k + 1) (k + 1)) w' := fun w' => by
        have h := arr_slice w' w.heap.size (i - 1) (by omega)
        rw [show 65 - (i - 1) = k + 1 by omega, show ((i - 1 : Nat) : Int) = (i : Int) - 1 by omega] at h
        exact h
      have hw3 : w2.heap[w.heap.size]? = some (.cells (A.setIfInBounds (i - 1) (.int .u8 ((hexd u).toNat : Int))) 247 (0, 0)) := by rw [hw2]; exact block_setCell HX.out.2.2.2.2.1 _
      have hln : hexN n = hexd u :: D := by rw [HX.out.2.2.1, hexN_small h16]; rfl
      have hcv : (convert 90 9 (.slice (some ⟨w.heap.size, i - 1, none⟩) (k + 1) (k + 1))).run Tryz.prog w2 = .ok (.string ⟨(hexN n).toArray⟩) w2 := by
        have h := run_convert_bytes_back (P := Tryz.prog) w2 90 9 5 ⟨w.heap.size, i - 1, none⟩ (k + 1) (hexN n) Tryz.underlying90 Tryz.underlying5 Tryz.underlying9 (fun j hj => by
          rw [WideShapes.add_plain, cell_of_block hw3]
          have hsz9 := HX.out.2.2.2.2.2.1
          cases j with
          | zero =>
            rw [Nat.add_zero, Array.getElem?_setIfInBounds_self_of_lt (by omega)]
            simp only [hln, List.getElem_cons_zero]
          | succ j =>
            have hjD : j < D.length := by rw [hln] at hj; simpa using hj
            rw [Array.getElem?_setIfInBounds_ne (by omega), show i - 1 + (j + 1) = i + j by omega, HX.out.2.2.2.2.2.2 j _ (List.getElem?_eq_getElem hjD)]
            simp only [hln, List.getElem_cons_succ])
        rw [show (hexN n).length = k + 1 by rw [hln, List.length_cons, HX.out.1]] at h
        exact h
      have HB2 := Lib.hid (show Below w.heap.size w w2 by rw [hw2]; exact HX.out.2.2.2.1.setCell (Nat.le_refl _) _)
      clear hw2 hw3 hln hdg hc0 hf0
      go_wp2_with fail
      go_ret2
      exact ⟨rfl, HB2.out⟩
    · have d1 : decide ((16 : Int) ≤ (u : Int)) = true := by simp; omega
      have d2 : decide (16 ≤ u) = true := by simp; omega
      have hb : bits .and .u64 (u : Int) 15 = ((u % 16 : Nat) : Int) := by
        have h : bits .and .u64 (u : Int) 15 = (u : Int) % 16 := bits_mask .u64 64 (by decide) wraps_u64 4 (by decide) (u : Int) (by omega) (by omega)
        rw [h]; omega
      have hdg := digit_is (k := u % 16) (by omega) (by show u % 16 < 36; omega)
      have hd0 : (0 : Int) ≤ ((u % 16 : Nat) : Int) := by omega
      have hd9 : ((u % 16 : Nat) : Int) < 36 := by omega
      clear hcell hA hsz hN hu hbel hD
      go_wp2_with fail
      have hk4 : k ≤ 4 := by
        apply Classical.byContradiction
        intro hk
        have h5 : 16 ^ 5 ≤ 16 ^ k := Nat.pow_le_pow_right (by decide) (by omega)
        have h6 : 16 * 16 ^ 5 ≤ u * 16 ^ k := Nat.mul_le_mul (by omega) h5
        have h7 : 16 * 16 ^ 5 = 16777216 := by decide
        have := HNN.out; have := HX.out.2.1; omega
      obtain ⟨g, rfl⟩ : ∃ g, gk = g + 1 := ⟨gk - 1, by omega⟩
      go_roundg g
      case measure => omega
      case rel =>
        refine ⟨k + 1, u / 16, i - 1, hexd (u % 16) :: D, by omega, by rw [List.length_cons, HX.out.1], ?_, ?_, by omega, by simp, by rw [show ((i - 1 : Nat) : Int) = (i : Int) - 1 by omega], HX.out.2.2.2.1.setCell (Nat.le_refl _) _, A.setIfInBounds (i - 1) (.int .u8 ((hexd (u % 16)).toNat : Int)), block_setCell HX.out.2.2.2.2.1 _, by rw [Array.size_setIfInBounds]; exact HX.out.2.2.2.2.2.1, fun j x hj => ?_⟩
        · have h1 : u / 16 * 16 ≤ u := Nat.div_mul_le_self u 16
          have h2 : u / 16 * 16 * 16 ^ k ≤ u * 16 ^ k := Nat.mul_le_mul_right _ h1
          rw [Nat.pow_succ, Nat.mul_comm (16 ^ k) 16, ← Nat.mul_assoc]
          exact Nat.le_trans h2 HX.out.2.1
        · rw [HX.out.2.2.1, hexN_big h16]; simp
        · have hsz9 := HX.out.2.2.2.2.2.1
          cases j with
          | zero =>
            rw [Nat.add_zero, Array.getElem?_setIfInBounds_self_of_lt (by omega)]
            simp at hj; rw [hj]
          | succ j =>
            rw [Array.getElem?_setIfInBounds_ne (by omega), show i - 1 + (j + 1) = i + j by omega]
            exact HX.out.2.2.2.2.2.2 j x (by simpa using hj)
set_option maxRecDepth 100000 in
set_option maxHeartbeats 4000000 in
theorem iFormatInt_any (n : Nat) (w : World) (hn : n < 2097152) (hlo : 8 < w.heap.size) (hT : w.cell? ⟨8, 15, none⟩ = some (.int .u8 4)) :
    Calls Tryz.prog 187 #[.int .i64 (n : Int), .int .i64 16] w fun e w' => e = .returned (.string ⟨(hexN n).toArray⟩) ∧ Below w.heap.size w w' := by
  have h0 : decide ((n : Int) < 0) = false := by simp
  have h1 : IntKind.u64.wrap (n : Int) = (n : Int) := wraps_u64 _ (by omega) (by omega)
  obtain ⟨S, hS⟩ : ∃ S, S = (⟨(hexN n).toArray⟩ : ByteArray) := ⟨_, rfl⟩
  have hf := fun w' (hb : Below w.heap.size w w') => formatBits_any n w' hn (Nat.lt_of_lt_of_le hlo hb.size) ((hb.cell hlo).trans hT)
  rw [← hS] at hf ⊢
  have HF := Lib.hid hf
  clear hf hS hn hT
  go_enter Tryz.func187, Tryz.ntmps187
  go_wp2_with (go_at_call 213; refine (HF.out _ (Below.refl _ _)).mono ?_; rintro e w2 ⟨rfl, hb2⟩)
  go_ret
  exact ⟨rfl, hb2⟩
set_option maxRecDepth 100000 in
set_option maxHeartbeats 4000000 in
theorem formatInt_any (n : Nat) (w : World) (hn : n < 2097152) (hlo : 8 < w.heap.size) (hT : w.cell? ⟨8, 15, none⟩ = some (.int .u8 4)) :
    Calls Tryz.prog 131 #[.int .i64 (n : Int), .int .i64 16] w fun e w' => e = .returned (.string ⟨(hexN n).toArray⟩) ∧ Below w.heap.size w w' := by
  obtain ⟨S, hS⟩ : ∃ S, S = (⟨(hexN n).toArray⟩ : ByteArray) := ⟨_, rfl⟩
  have hf := iFormatInt_any n w hn hlo hT
  rw [← hS] at hf ⊢
  have HF := Lib.hid hf
  clear hf hS hn hT
  go_enter Tryz.func131, Tryz.ntmps131
  go_wp2_with (go_at_call 187; refine HF.out.mono ?_; rintro e w2 ⟨rfl, hb2⟩)
  go_ret
  exact ⟨rfl, hb2⟩
end Go.Proofs.YtahckikemljlnaaGreatDoor

namespace Go.Proofs.YtahckikemljlnaaGreatDoor
open Go.RowKit

def alnum (r : Int) : Bool := (decide (97 ≤ r) && decide (r ≤ 122)) || (decide (65 ≤ r) && decide (r ≤ 90)) || (decide (48 ≤ r) && decide (r ≤ 57))
def hexU (n : Nat) : ByteArray := ⟨(Lib.toUpperA (hexN n)).toArray⟩
def letB (r : Int) : ByteArray := if alnum r = true then ⟨#[UInt8.ofNat r.toNat]⟩ else (⟨#[92, 117, 123]⟩ ++ hexU r.toNat) ++ ⟨#[125]⟩
theorem hexd_small {k : Nat} (h : k < 16) : (hexd k).toNat < 128 := by
  have : ∀ k : Nat, k < 16 → (hexd k).toNat < 128 := by decide
  exact this k h
theorem hexN_ascii : ∀ (N n : Nat), n ≤ N → ∀ b ∈ hexN n, b.toNat < 128 := by
  intro N
  induction N with
  | zero => intro n h b hb; rw [hexN_small (by omega)] at hb; simp at hb; rw [hb]; exact hexd_small (by omega)
  | succ N ih =>
    intro n h b hb
    by_cases h16 : n < 16
    · rw [hexN_small h16] at hb; simp at hb; rw [hb]; exact hexd_small h16
    · rw [hexN_big h16] at hb
      rcases List.mem_append.1 hb with h1 | h1
      · exact ih (n / 16) (by omega) b h1
      · simp at h1; rw [h1]; exact hexd_small (by omega)
theorem hexN_len : ∀ (k n : Nat), n < 16 ^ (k + 1) → (hexN n).length ≤ k + 1 := by
  intro k
  induction k with
  | zero => intro n h; rw [hexN_small (by simpa using h)]; simp
  | succ k ih =>
    intro n h
    by_cases h16 : n < 16
    · rw [hexN_small h16]; simp
    · rw [hexN_big h16]
      have := ih (n / 16) (by rw [Nat.div_lt_iff_lt_mul (by decide)]; rw [Nat.pow_succ] at h; exact h)
      simp; omega
def TZ (w : World) : Prop := 8 < w.heap.size ∧ w.cell? ⟨8, 15, none⟩ = some (.int .u8 4)
theorem TZ.moved {w w' : World} (h : TZ w) (hb : Below w.heap.size w w') : TZ w' := ⟨Nat.lt_of_lt_of_le h.1 hb.size, (hb.cell h.1).trans h.2⟩
theorem encode_alnum (n : Nat) (ha : alnum (n : Int) = true) : Utf8.encode (n : Int) = ⟨#[UInt8.ofNat n]⟩ := by
  have hn : n < 128 := by
    unfold alnum at ha
    simp at ha
    omega
  have : ∀ n : Nat, n < 128 → Utf8.encode (n : Int) = ⟨#[UInt8.ofNat n]⟩ := by decide
  exact this n hn
set_option maxRecDepth 100000 in
set_option maxHeartbeats 4000000 in
theorem letter_any (r : Int) (w : World) (h0 : 0 ≤ r) (h1 : r ≤ 1114111) (hT : TZ w) : Calls Tryz.prog 79 #[.int .i32 r] w fun e w' => e = .returned (.string (letB r)) ∧ Below w.heap.size w w' := by
  obtain ⟨n, rfl⟩ : ∃ n : Nat, r = (n : Int) := ⟨r.toNat, by omega⟩
  have hn : n < 2097152 := by omega
  have hfm := fun w' (hb : Below w.heap.size w w') => formatInt_any n w' hn (hT.moved hb).1 (hT.moved hb).2
  have hup := fun w' => Tryz.strings_ToUpper_ascii ⟨(hexN n).toArray⟩ w' (by
      have := hexN_len 5 n (by simpa using (by omega : n < 16777216))
      show (hexN n).toArray.size ≤ _
      rw [List.size_toArray]; omega) (fun j b hb => hexN_ascii n n (Nat.le_refl _) b (List.mem_of_getElem? hb))
  obtain ⟨S, hS⟩ : ∃ S, S = (⟨(hexN n).toArray⟩ : ByteArray) := ⟨_, rfl⟩
  obtain ⟨U, hU⟩ : ∃ S, S = hexU n := ⟨_, rfl⟩
  have hup2 : ∀ w', Calls Tryz.prog 130 #[.string S] w' fun e w'' => e = .returned (.string U) ∧ Below w'.heap.size w' w'' := fun w' => by rw [hS, hU]; exact hup w'
  rw [← hS] at hfm
  have hcv : ∀ w', alnum (n : Int) = true → (convert 21 9 (.int .i32 (n : Int))).run Tryz.prog w' = .ok (.string ⟨#[UInt8.ofNat n]⟩) w' := fun w' ha => by
    rw [← encode_alnum n ha]; exact run_convert_int_string w' _ _ _ _ (by kernel_rfl) Tryz.underlying9
  have HF := Lib.hid hfm
  have HU := Lib.hid hup2
  have hlt : letB (n : Int) = if alnum (n : Int) = true then ⟨#[UInt8.ofNat n]⟩ else (⟨#[92, 117, 123]⟩ ++ U) ++ ⟨#[125]⟩ := by rw [hU]; rfl
  have hUs : U.size ≤ 6 := by
    rw [hU]
    show (Lib.toUpperA (hexN n)).toArray.size ≤ 6
    rw [List.size_toArray]
    have := hexN_len 5 n (by simpa using (by omega : n < 16777216))
    simp only [Lib.toUpperA, List.length_map]
    omega
  have hu1 : ¬ 9223372036854775807 < 3 + U.size := by omega
  have hu2 : ¬ 9223372036854775807 < 3 + U.size + 1 := by omega
  have HL := Lib.hid hlt
  have HC := Lib.hid hcv
  have HN := Lib.hid hn
  clear hfm hup hup2 hlt hcv hS hU hT hn hUs
  by_cases c0 : n < 48
  · have d0 : decide ((48 : Int) ≤ (n : Int)) = false := by simp; omega
    have d1 : decide ((65 : Int) ≤ (n : Int)) = false := by simp; omega
    have d2 : decide ((97 : Int) ≤ (n : Int)) = false := by simp; omega
    have d3 : decide ((n : Int) ≤ 57) = true := by simp; omega
    have d4 : decide ((n : Int) ≤ 90) = true := by simp; omega
    have d5 : decide ((n : Int) ≤ 122) = true := by simp; omega
    have ha : alnum (n : Int) = false := by unfold alnum; simp only [d0, d1, d2, d3, d4, d5]; rfl
    have HX := Lib.hid (show letB (n : Int) = (⟨#[92, 117, 123]⟩ ++ U) ++ ⟨#[125]⟩ by rw [HL.out, if_neg (by rw [ha]; decide)])
    clear ha
    have hw : IntKind.i64.wrap (n : Int) = (n : Int) := IntWalk.i64_in _ (by omega)
    go_enter Tryz.func79, Tryz.ntmps79
    go_wp2_with fail
    refine (HF.out _ (Below.refl _ _)).mono ?_
    rintro e w2 ⟨rfl, hb2⟩
    have HB2 := Lib.hid hb2
    clear hb2
    go_wp2_with fail
    refine (HU.out _).mono ?_
    rintro e w3 ⟨rfl, hb3⟩
    have HB3 := Lib.hid (bel_then HB2.out hb3)
    clear hb3
    go_wp2_with fail
    go_ret
    exact ⟨by rw [HX.out]; rfl, HB3.out⟩
  by_cases c1 : n ≤ 57
  · have d0 : decide ((48 : Int) ≤ (n : Int)) = true := by simp; omega
    have d1 : decide ((65 : Int) ≤ (n : Int)) = false := by simp; omega
    have d2 : decide ((97 : Int) ≤ (n : Int)) = false := by simp; omega
    have d3 : decide ((n : Int) ≤ 57) = true := by simp; omega
    have d4 : decide ((n : Int) ≤ 90) = true := by simp; omega
    have d5 : decide ((n : Int) ≤ 122) = true := by simp; omega
    have ha : alnum (n : Int) = true := by unfold alnum; simp only [d0, d1, d2, d3, d4, d5]; rfl
    have HX := Lib.hid (show letB (n : Int) = ⟨#[UInt8.ofNat n]⟩ by rw [HL.out, if_pos ha])
    have hc := fun w' => HC.out w' ha
    clear ha
    go_enter Tryz.func79, Tryz.ntmps79
    go_wp2_with fail
    go_ret
    exact ⟨by rw [HX.out]; rfl, Below.refl _ _⟩
  by_cases c2 : n < 65
  · have d0 : decide ((48 : Int) ≤ (n : Int)) = true := by simp; omega
    have d1 : decide ((65 : Int) ≤ (n : Int)) = false := by simp; omega
    have d2 : decide ((97 : Int) ≤ (n : Int)) = false := by simp; omega
    have d3 : decide ((n : Int) ≤ 57) = false := by simp; omega
    have d4 : decide ((n : Int) ≤ 90) = true := by simp; omega
    have d5 : decide ((n : Int) ≤ 122) = true := by simp; omega
    have ha : alnum (n : Int) = false := by unfold alnum; simp only [d0, d1, d2, d3, d4, d5]; rfl
    have HX := Lib.hid (show letB (n : Int) = (⟨#[92, 117, 123]⟩ ++ U) ++ ⟨#[125]⟩ by rw [HL.out, if_neg (by rw [ha]; decide)])
    clear ha
    have hw : IntKind.i64.wrap (n : Int) = (n : Int) := IntWalk.i64_in _ (by omega)
    go_enter Tryz.func79, Tryz.ntmps79
    go_wp2_with fail
    refine (HF.out _ (Below.refl _ _)).mono ?_
    rintro e w2 ⟨rfl, hb2⟩
    have HB2 := Lib.hid hb2
    clear hb2
    go_wp2_with fail
    refine (HU.out _).mono ?_
    rintro e w3 ⟨rfl, hb3⟩
    have HB3 := Lib.hid (bel_then HB2.out hb3)
    clear hb3
    go_wp2_with fail
    go_ret
    exact ⟨by rw [HX.out]; rfl, HB3.out⟩
  by_cases c3 : n ≤ 90
  · have d0 : decide ((48 : Int) ≤ (n : Int)) = true := by simp; omega
    have d1 : decide ((65 : Int) ≤ (n : Int)) = true := by simp; omega
    have d2 : decide ((97 : Int) ≤ (n : Int)) = false := by simp; omega
    have d3 : decide ((n : Int) ≤ 57) = false := by simp; omega
    have d4 : decide ((n : Int) ≤ 90) = true := by simp; omega
    have d5 : decide ((n : Int) ≤ 122) = true := by simp; omega
    have ha : alnum (n : Int) = true := by unfold alnum; simp only [d0, d1, d2, d3, d4, d5]; rfl
    have HX := Lib.hid (show letB (n : Int) = ⟨#[UInt8.ofNat n]⟩ by rw [HL.out, if_pos ha])
    have hc := fun w' => HC.out w' ha
    clear ha
    go_enter Tryz.func79, Tryz.ntmps79
    go_wp2_with fail
    go_ret
    exact ⟨by rw [HX.out]; rfl, Below.refl _ _⟩
  by_cases c4 : n < 97
  · have d0 : decide ((48 : Int) ≤ (n : Int)) = true := by simp; omega
    have d1 : decide ((65 : Int) ≤ (n : Int)) = true := by simp; omega
    have d2 : decide ((97 : Int) ≤ (n : Int)) = false := by simp; omega
    have d3 : decide ((n : Int) ≤ 57) = false := by simp; omega
    have d4 : decide ((n : Int) ≤ 90) = false := by simp; omega
    have d5 : decide ((n : Int) ≤ 122) = true := by simp; omega
    have ha : alnum (n : Int) = false := by unfold alnum; simp only [d0, d1, d2, d3, d4, d5]; rfl
    have HX := Lib.hid (show letB (n : Int) = (⟨#[92, 117, 123]⟩ ++ U) ++ ⟨#[125]⟩ by rw [HL.out, if_neg (by rw [ha]; decide)])
    clear ha
    have hw : IntKind.i64.wrap (n : Int) = (n : Int) := IntWalk.i64_in _ (by omega)
    go_enter Tryz.func79, Tryz.ntmps79
    go_wp2_with fail
    refine (HF.out _ (Below.refl _ _)).mono ?_
    rintro e w2 ⟨rfl, hb2⟩
    have HB2 := Lib.hid hb2
    clear hb2
    go_wp2_with fail
    refine (HU.out _).mono ?_
    rintro e w3 ⟨rfl, hb3⟩
    have HB3 := Lib.hid (bel_then HB2.out hb3)
    clear hb3
    go_wp2_with fail
    go_ret
    exact ⟨by rw [HX.out]; rfl, HB3.out⟩
  by_cases c5 : n ≤ 122
  · have d0 : decide ((48 : Int) ≤ (n : Int)) = true := by simp; omega
    have d1 : decide ((65 : Int) ≤ (n : Int)) = true := by simp; omega
    have d2 : decide ((97 : Int) ≤ (n : Int)) = true := by simp; omega
    have d3 : decide ((n : Int) ≤ 57) = false := by simp; omega
    have d4 : decide ((n : Int) ≤ 90) = false := by simp; omega
    have d5 : decide ((n : Int) ≤ 122) = true := by simp; omega
    have ha : alnum (n : Int) = true := by unfold alnum; simp only [d0, d1, d2, d3, d4, d5]; rfl
    have HX := Lib.hid (show letB (n : Int) = ⟨#[UInt8.ofNat n]⟩ by rw [HL.out, if_pos ha])
    have hc := fun w' => HC.out w' ha
    clear ha
    go_enter Tryz.func79, Tryz.ntmps79
    go_wp2_with fail
    go_ret
    exact ⟨by rw [HX.out]; rfl, Below.refl _ _⟩
  have d0 : decide ((48 : Int) ≤ (n : Int)) = true := by simp; omega
  have d1 : decide ((65 : Int) ≤ (n : Int)) = true := by simp; omega
  have d2 : decide ((97 : Int) ≤ (n : Int)) = true := by simp; omega
  have d3 : decide ((n : Int) ≤ 57) = false := by simp; omega
  have d4 : decide ((n : Int) ≤ 90) = false := by simp; omega
  have d5 : decide ((n : Int) ≤ 122) = false := by simp; omega
  have ha : alnum (n : Int) = false := by unfold alnum; simp only [d0, d1, d2, d3, d4, d5]; rfl
  have HX := Lib.hid (show letB (n : Int) = (⟨#[92, 117, 123]⟩ ++ U) ++ ⟨#[125]⟩ by rw [HL.out, if_neg (by rw [ha]; decide)])
  clear ha
  have hw : IntKind.i64.wrap (n : Int) = (n : Int) := IntWalk.i64_in _ (by omega)
  go_enter Tryz.func79, Tryz.ntmps79
  go_wp2_with fail
  refine (HF.out _ (Below.refl _ _)).mono ?_
  rintro e w2 ⟨rfl, hb2⟩
  have HB2 := Lib.hid hb2
  clear hb2
  go_wp2_with fail
  refine (HU.out _).mono ?_
  rintro e w3 ⟨rfl, hb3⟩
  have HB3 := Lib.hid (bel_then HB2.out hb3)
  clear hb3
  go_wp2_with fail
  go_ret
  exact ⟨by rw [HX.out]; rfl, HB3.out⟩
end Go.Proofs.YtahckikemljlnaaGreatDoor
