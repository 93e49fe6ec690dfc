/- Classes of two letters with a - between, and a third: the mathematics. -/
import Derived.Test.YtkngppkchaadhaaGreatWordTold
import Derived.Test.YtkngppkchaadhaaGreatRuneSameZ
import Derived.Test.YtkngppkchaadhaaGreatConvRow
set_option linter.unusedVariables false
set_option linter.unusedSimpArgs false
namespace Go.Proofs.YtkngppkchaadhaaGreat
open Go.RowKit De Wd

namespace Wd
theorem tk_letter {L : Its} {k : Nat} {c : Int} (h : pk L k = c) (hc : 97 ≤ c ∧ c ≤ 122) : tk L k = true := by
  unfold tk okL
  rw [h]
  have h1 : c ∉ lst1 := by simp [lst1]; omega
  simp [h1]; omega
theorem els_three {L : Its} {k : Nat} {X Y Z : Int} (hX : 97 ≤ X ∧ X ≤ 122) (hY : 97 ≤ Y ∧ Y ≤ 122) (hZ : 97 ≤ Z ∧ Z ≤ 122) (hl : L.length = k + 4) (h0 : pk L k = X) (h1 : pk L (k + 1) = 45) (h2 : pk L (k + 2) = Y) (h3 : pk L (k + 3) = Z) :
    els L (L.length + 2) [] k = if Y < X then .error (k + 2) else .ok [(X, Y), (Z, Z)] := by
  have e0 : el L k = if Y < X then .error (k + 2) else .ok ((X, Y), k + 3) := by
    unfold el
    rw [if_pos (tk_letter h0 hX), if_pos h1, if_pos (tk_letter h2 hY), h0, h2]
  have hp4 : pk L (k + 3 + 1) = -1 := pk_end (by omega)
  have e1 : el L (k + 3) = .ok ((Z, Z), k + 4) := by
    unfold el
    rw [if_pos (tk_letter h3 hZ), if_neg (by rw [hp4]; decide), h3]
  rw [show L.length + 2 = (k + 5) + 1 from by omega]
  by_cases hlt : Y < X
  · rw [if_pos hlt] at e0 ⊢
    exact els_bad (by simp) e0
  · rw [if_neg hlt] at e0 ⊢
    rw [els_go (by simp) e0, List.nil_append, show k + 5 = (k + 4) + 1 from by omega, els_go (by simp; omega) e1, els_stop (by simp) (by omega)]
    rfl
theorem has_three {X Y Z : Int} (hX : 97 ≤ X ∧ X ≤ 122) (hY : X ≤ Y) : Ru.has [(X, Y), (Z, Z)] X = true := by
  have : Ru.scal X = true := by unfold Ru.scal; simp; omega
  simp [Ru.has, this]; left; exact hY
theorem has_zero {X Y Z : Int} (hX : 97 ≤ X) (hZ : 97 ≤ Z) : Ru.has [(X, Y), (Z, Z)] 0 = false := by
  simp [Ru.has]; intro _; constructor <;> intro <;> omega
theorem nrm_some {X Y Z : Int} (hX : 97 ≤ X ∧ X ≤ 122) (hY : X ≤ Y) : Ru.nrm [(X, Y), (Z, Z)] ≠ [] := by
  intro h
  have := Ru.has_nrm [(X, Y), (Z, Z)] X
  rw [h, has_three hX hY] at this
  simp [Ru.has] at this
theorem nt_some {X Y Z : Int} (hX : 97 ≤ X) (hZ : 97 ≤ Z) : Ru.nt [(X, Y), (Z, Z)] ≠ [] := by
  intro h
  have := Ru.has_nt [(X, Y), (Z, Z)] 0
  rw [h, has_zero hX hZ] at this
  simp [Ru.has, Ru.scal] at this
theorem nt_nrm (l : List Ru.Pc) : Ru.nt (Ru.nrm l) = Ru.nt l := by
  unfold Ru.nt; rw [Ru.pcs_ext fun p => Ru.inR_nrm l p]
theorem cls_three {X Y Z : Int} (hX : 97 ≤ X ∧ X ≤ 122) (hY : 97 ≤ Y ∧ Y ≤ 122) (hZ : 97 ≤ Z ∧ Z ≤ 122) : cls (asc 0 [X, 45, Y, Z]) 4 = if Y < X then .bad 2 else .ok (Ru.nrm [(X, Y), (Z, Z)]) := by
  have h0 : pk (asc 0 [X, 45, Y, Z]) 0 = X := rfl
  have he := els_three (L := asc 0 [X, 45, Y, Z]) (k := 0) hX hY hZ rfl rfl rfl rfl rfl
  unfold cls
  rw [h0]
  simp only [if_neg (show ¬ X = 94 by omega)]
  rw [he]
  by_cases hlt : Y < X
  · rw [if_pos hlt, if_pos hlt]; rfl
  · rw [if_neg hlt, if_neg hlt]
    simp only
    rw [if_neg (nrm_some hX (by omega))]
theorem cls_four {X Y Z : Int} (hX : 97 ≤ X ∧ X ≤ 122) (hY : 97 ≤ Y ∧ Y ≤ 122) (hZ : 97 ≤ Z ∧ Z ≤ 122) : cls (asc 0 [94, X, 45, Y, Z]) 5 = if Y < X then .bad 3 else .ok (Ru.nt [(X, Y), (Z, Z)]) := by
  have h0 : pk (asc 0 [94, X, 45, Y, Z]) 0 = 94 := rfl
  have he := els_three (L := asc 0 [94, X, 45, Y, Z]) (k := 1) hX hY hZ rfl rfl rfl rfl rfl
  unfold cls
  rw [h0]
  simp only [if_true]
  rw [he]
  by_cases hlt : Y < X
  · rw [if_pos hlt, if_pos hlt]; rfl
  · rw [if_neg hlt, if_neg hlt]
    simp only
    rw [if_neg (nt_some hX.1 hZ.1)]
end Wd
def alphaB : ByteArray := ⟨#[97, 98, 99, 100, 101, 102, 103, 104, 105, 106, 107, 108, 109, 110, 111, 112, 113, 114, 115, 116, 117, 118, 119, 120, 121, 122]⟩
def alphaL : List Int := [97, 98, 99, 100, 101, 102, 103, 104, 105, 106, 107, 108, 109, 110, 111, 112, 113, 114, 115, 116, 117, 118, 119, 120, 121, 122]
theorem alpha_at (x : Nat) (hx : x < 26) : sb (alphaB.extract x (x + 1)) = [(97 : Int) + x] := by
  have h : ∀ x : Nat, x < 26 → (alphaL.drop x).take 1 = [(97 : Int) + x] := by decide
  have h2 : sb (alphaB.extract x (x + 1)) = (alphaL.drop x).take (x + 1 - x) := by
    rw [show alphaL = sb alphaB from rfl]
    simp [sb, List.map_take, List.map_drop]
  rw [h2, Nat.add_sub_cancel_left, h x hx]
/-- the law's text, and what Class makes of it -/
theorem cls_text {x y z : Nat} (hx : x < 26) (hy : y < 26) (hz : z < 26) {S : ByteArray} (hS : S = alphaB.extract x (x + 1) ++ (⟨#[45]⟩ : ByteArray) ++ alphaB.extract y (y + 1) ++ alphaB.extract z (z + 1)) :
    sb S = [(97 : Int) + x, 45, 97 + y, 97 + z] := by
  rw [hS, sb_append, sb_append, sb_append, alpha_at x hx, alpha_at y hy, alpha_at z hz]; rfl
theorem class_three {x y z : Nat} (hx : x < 26) (hy : y < 26) (hz : z < 26) {S : ByteArray} (hS : sb S = [(97 : Int) + x, 45, 97 + y, 97 + z]) (w : World) : Calls Tryz.prog 4 #[.string S] w fun e w' =>
    if y < x then e = .returned (.tuple #[.slice none 0 0, .int .i64 3, .int .i64 2]) ∧ Below w.heap.size w w'
    else ∃ u, e = .returned (.tuple #[u, .int .i64 0, .int .i64 0]) ∧ w'.ownsRow w.heap.size 29 2 u (Ru.nrm [((97 : Int) + x, 97 + y), (97 + z, 97 + z)]).length (flatK .i32 (Ru.nrm [((97 : Int) + x, 97 + y), (97 + z, 97 + z)])) ∧ Below w.heap.size w w' := by
  have hsz : S.size = 4 := by rw [← sb_len, hS]; rfl
  have ha : ∀ c ∈ [(97 : Int) + x, 45, 97 + y, 97 + z], 0 ≤ c ∧ c < 128 ∧ c ≠ 92 := by intro c hc; simp at hc; omega
  have h := class_any S w (by omega) (by rw [hS]; exact pl_asc ha)
  unfold ClsPost at h
  rw [hS, all_asc _ _ (fun c hc => (ha c hc).2.1), hsz, cls_three (by omega) (by omega) (by omega)] at h
  refine h.mono fun e w' h => ?_
  by_cases hlt : y < x
  · rw [if_pos (by omega)] at h; rw [if_pos hlt]; exact h
  · rw [if_neg (by omega)] at h; rw [if_neg hlt]; exact h
theorem class_four {x y z : Nat} (hx : x < 26) (hy : y < 26) (hz : z < 26) {S : ByteArray} (hS : sb S = [(97 : Int) + x, 45, 97 + y, 97 + z]) (w : World) : Calls Tryz.prog 4 #[.string ((⟨#[94]⟩ : ByteArray) ++ S)] w fun e w' =>
    if y < x then e = .returned (.tuple #[.slice none 0 0, .int .i64 3, .int .i64 3]) ∧ Below w.heap.size w w'
    else ∃ u, e = .returned (.tuple #[u, .int .i64 0, .int .i64 0]) ∧ w'.ownsRow w.heap.size 29 2 u (Ru.nt [((97 : Int) + x, 97 + y), (97 + z, 97 + z)]).length (flatK .i32 (Ru.nt [((97 : Int) + x, 97 + y), (97 + z, 97 + z)])) ∧ Below w.heap.size w w' := by
  have hS2 : sb ((⟨#[94]⟩ : ByteArray) ++ S) = [94, (97 : Int) + x, 45, 97 + y, 97 + z] := by rw [sb_append, hS]; rfl
  have hsz : ((⟨#[94]⟩ : ByteArray) ++ S).size = 5 := by rw [← sb_len, hS2]; rfl
  have ha : ∀ c ∈ [94, (97 : Int) + x, 45, 97 + y, 97 + z], 0 ≤ c ∧ c < 128 ∧ c ≠ 92 := by intro c hc; simp at hc; omega
  have h := class_any ((⟨#[94]⟩ : ByteArray) ++ S) w (by omega) (by rw [hS2]; exact pl_asc ha)
  unfold ClsPost at h
  rw [hS2, all_asc _ _ (fun c hc => (ha c hc).2.1), hsz, cls_four (by omega) (by omega) (by omega)] at h
  refine h.mono fun e w' h => ?_
  by_cases hlt : y < x
  · rw [if_pos (by omega)] at h; rw [if_pos hlt]; exact h
  · rw [if_neg (by omega)] at h; rw [if_neg hlt]; exact h
end Go.Proofs.YtkngppkchaadhaaGreat
