/- goboref11.E: escape, member. -/
import Derived.Test.YtkngppkchaadhaaEref
set_option linter.unusedVariables false
set_option linter.unusedSimpArgs false
namespace Go.Proofs.Ytkngppkchaadhaa
open Go.RowKit De Wd

def RPostE (x : Except Nat (Int × Nat)) (p : Nat) (L : Its) (n : Nat) (v : Value) (wh : Int) (w : World) (e : Ending) (w' : World) : Prop :=
  match x with
  | .ok y => e = .returned (.int .i32 y.1) ∧ EI w' p L y.2 n v 0 wh ∧ Ch w w' p
  | .error j => e = .returned (.int .i32 0) ∧ (∃ k, EI w' p L k n v 3 (plc L n j)) ∧ Ch w w' p
theorem re_yes {x : Except Nat (Int × Nat)} {r : Int} {k' p n : Nat} {L : Its} {v : Value} {wh : Int} {w w' : World} (h : x = .ok (r, k')) (hi : EI w' p L k' n v 0 wh) (hc : Ch w w' p) : RPostE x p L n v wh w (.returned (.int .i32 r)) w' := by subst h; exact ⟨rfl, hi, hc⟩
theorem re_no {x : Except Nat (Int × Nat)} {j k p n : Nat} {L : Its} {v : Value} {wh : Int} {w w' : World} (h : x = .error j) (hi : EI w' p L k n v 3 (plc L n j)) (hc : Ch w w' p) : RPostE x p L n v wh w (.returned (.int .i32 0)) w' := by subst h; exact ⟨rfl, ⟨k, hi⟩, hc⟩
theorem RPostE.cases {x : Except Nat (Int × Nat)} {p n : Nat} {L : Its} {v : Value} {wh : Int} {w w' : World} {e : Ending} (h : RPostE x p L n v wh w e w') :
    (∃ r k', x = .ok (r, k') ∧ e = .returned (.int .i32 r) ∧ EI w' p L k' n v 0 wh ∧ Ch w w' p) ∨ (∃ j k, x = .error j ∧ e = .returned (.int .i32 0) ∧ EI w' p L k n v 3 (plc L n j) ∧ Ch w w' p) := by
  cases x with
  | ok y => exact .inl ⟨y.1, y.2, rfl, h⟩
  | error j => obtain ⟨h1, ⟨k, h2⟩, h3⟩ := h; exact .inr ⟨j, k, rfl, h1, h2, h3⟩
namespace Wd
def lst3 : List Int := [47, 124, 42, 40, 41, 91, 93, 92, 46, 45, 94, 123, 125]
def lst4 : List Int := [47, 124, 42, 40, 41, 91, 93, 92, 45]
end Wd
theorem sb3 : sb ⟨#[47, 124, 42, 40, 41, 91, 93, 92, 46, 45, 94, 123, 125]⟩ = lst3 := by decide
theorem sb4 : sb ⟨#[47, 124, 42, 40, 41, 91, 93, 92, 45]⟩ = lst4 := by decide
open Ru in
theorem scal_t {r : Int} (h : 0 ≤ r ∧ r ≤ 1114111 ∧ (r < 55296 ∨ 57344 ≤ r)) : true = scal r := ((scal_iff r).2 h).symm
open Ru in
theorem scal_f {r : Int} (h : ¬ (0 ≤ r ∧ r ≤ 1114111 ∧ (r < 55296 ∨ 57344 ≤ r))) : false = scal r := ((scal_not r).2 h).symm

open Ru in
theorem refScalar_any (r : Int) (w : World) : Calls Try.prog 90 #[.int .i32 r] w fun e w' => e = .returned (.bool (scal r)) ∧ w = w' := by
  go_enter Try.func90, Try.ntmps90
  by_cases h1 : 0 ≤ r
  · by_cases h2 : r ≤ 1114111
    · by_cases h3 : r < 55296
      · go_wp2
        go_ret
        exact ⟨ret_bool (by first | exact scal_t (by omega) | exact scal_f (by omega)), rfl⟩
      · by_cases h4 : 57343 < r
        · go_wp2
          go_ret
          exact ⟨ret_bool (by first | exact scal_t (by omega) | exact scal_f (by omega)), rfl⟩
        · go_wp2
          go_ret
          exact ⟨ret_bool (by first | exact scal_t (by omega) | exact scal_f (by omega)), rfl⟩
    · go_wp2
      go_ret
      exact ⟨ret_bool (by first | exact scal_t (by omega) | exact scal_f (by omega)), rfl⟩
  · go_wp2
    go_ret
    exact ⟨ret_bool (by first | exact scal_t (by omega) | exact scal_f (by omega)), rfl⟩


set_option maxHeartbeats 8000000 in
set_option maxRecDepth 100000 in
theorem escape_any (p k n : Nat) (L : Its) (v : Value) (wh : Int) (w : World) (h : EI w p L k n v 0 wh) (hsc : Sc L) :
    Calls Try.prog 69 #[.pointer (some ⟨p, 0, none⟩)] w (RPostE (esc L k) p L n v wh w) := by
  have H := Lib.hid h
  have hsm : k ≤ 1000000 := Nat.le_trans h.le h.small
  have hpk := hsc.pk k
  have HS := Lib.hid hsc
  have hres : RPostE (esc L k) p L n v wh w = RPostE (esc L k) p L n v wh w := rfl
  clear h hsc hres
  by_cases a1 : pk L k = 110
  · have hkl : k < L.length := pk_lt (L := L) (k := k) (by omega)
    have HR := Lib.hid (show esc L k = .ok (10, k + 1) from by unfold esc; rw [if_pos ⟨by omega, by rw [a1]; decide⟩, if_pos a1])
    have b1 : (pk L k == 110) = true := by simp [a1]
    clear hpk a1
    go_enter Try.func69, Try.ntmps69
    go_wp2_with fail
    refine (rpeek_any p k n L v wh _ H.out).mono ?_
    rintro e w1 ⟨rfl, q, rfl⟩
    obtain ⟨⟨c0, c1, c2, c3, c4⟩, f2, f3, f4⟩ := cells5_of (H.out.drewN q).hh
    go_wp2
    go_ret
    exact re_yes HR.out (by simpa using (H.out.drewN q).at (k' := k + 1) (by omega)) ((Ch.drewN p q).trans (Ch.set _ p 2 _))
  by_cases a2 : pk L k = 114
  · have hkl : k < L.length := pk_lt (L := L) (k := k) (by omega)
    have HR := Lib.hid (show esc L k = .ok (13, k + 1) from by unfold esc; rw [if_pos ⟨by omega, by rw [a2]; decide⟩, if_neg a1, if_pos a2])
    have b1 : (pk L k == 110) = false := by simpa using a1
    have b2 : (pk L k == 114) = true := by simp [a2]
    clear hpk a1 a2
    go_enter Try.func69, Try.ntmps69
    go_wp2_with fail
    refine (rpeek_any p k n L v wh _ H.out).mono ?_
    rintro e w1 ⟨rfl, q, rfl⟩
    obtain ⟨⟨c0, c1, c2, c3, c4⟩, f2, f3, f4⟩ := cells5_of (H.out.drewN q).hh
    go_wp2
    go_ret
    exact re_yes HR.out (by simpa using (H.out.drewN q).at (k' := k + 1) (by omega)) ((Ch.drewN p q).trans (Ch.set _ p 2 _))
  by_cases a3 : pk L k = 116
  · have hkl : k < L.length := pk_lt (L := L) (k := k) (by omega)
    have HR := Lib.hid (show esc L k = .ok (9, k + 1) from by unfold esc; rw [if_pos ⟨by omega, by rw [a3]; decide⟩, if_neg a1, if_neg a2, if_pos a3])
    have b1 : (pk L k == 110) = false := by simpa using a1
    have b2 : (pk L k == 114) = false := by simpa using a2
    have b3 : (pk L k == 116) = true := by simp [a3]
    clear hpk a1 a2 a3
    go_enter Try.func69, Try.ntmps69
    go_wp2_with fail
    refine (rpeek_any p k n L v wh _ H.out).mono ?_
    rintro e w1 ⟨rfl, q, rfl⟩
    obtain ⟨⟨c0, c1, c2, c3, c4⟩, f2, f3, f4⟩ := cells5_of (H.out.drewN q).hh
    go_wp2
    go_ret
    exact re_yes HR.out (by simpa using (H.out.drewN q).at (k' := k + 1) (by omega)) ((Ch.drewN p q).trans (Ch.set _ p 2 _))
  have b1 : (pk L k == 110) = false := by simpa using a1
  have b2 : (pk L k == 114) = false := by simpa using a2
  have b3 : (pk L k == 116) = false := by simpa using a3
  have ham := fun w => among_any ⟨#[47, 124, 42, 40, 41, 91, 93, 92, 46, 45, 94, 123, 125]⟩ (pk L k) w (by decide)
  rw [sb3] at ham
  by_cases a5 : pk L k ∈ lst3
  · have hkl : k < L.length := by
      rcases hpk with e | e
      · rw [e] at a5; exact absurd a5 (by decide)
      · exact e.1
    have h0 : 0 ≤ pk L k := by
      rcases hpk with e | e
      · rw [e] at a5; exact absurd a5 (by decide)
      · exact e.2.1
    have a4 : ¬ pk L k = 117 := by intro e; rw [e] at a5; exact absurd a5 (by decide)
    have HR := Lib.hid (show esc L k = .ok (pk L k, k + 1) from by
      unfold esc
      rw [if_pos ⟨h0, by unfold ok2; rw [decide_eq_true_eq]; unfold lst2; unfold lst3 at a5; simp only [List.mem_cons, List.not_mem_nil, or_false] at a5 ⊢; omega⟩, if_neg a1, if_neg a2, if_neg a3, if_neg a4])
    rw [decide_eq_true a5] at ham
    have HAM := Lib.hid ham
    clear hpk a1 a2 a3 a4 a5 ham
    go_enter Try.func69, Try.ntmps69
    go_wp2_with fail
    refine (rpeek_any p k n L v wh _ H.out).mono ?_
    rintro e w1 ⟨rfl, q, rfl⟩
    obtain ⟨⟨c0, c1, c2, c3, c4⟩, f2, f3, f4⟩ := cells5_of (H.out.drewN q).hh
    go_wp2_with fail
    refine (HAM.out _).mono ?_
    rintro e w2 ⟨rfl, rfl⟩
    go_wp2
    go_ret
    exact re_yes HR.out (by simpa using (H.out.drewN q).at (k' := k + 1) (by omega)) ((Ch.drewN p q).trans (Ch.set _ p 2 _))
  rw [decide_eq_false a5] at ham
  have HAM := Lib.hid ham
  clear ham
  by_cases a4 : pk L k = 117
  · have hkl : k < L.length := pk_lt (L := L) (k := k) (by omega)
    have hes : esc L k = (if 0 ≤ pk L (k + 1) ∧ ok3 (pk L (k + 1)) = true then num L 7 0 0 (k + 2) else .error (k + 1)) := by
      unfold esc; rw [if_pos ⟨by omega, by rw [a4]; decide⟩, if_neg a1, if_neg a2, if_neg a3, if_pos a4]
    have HES := Lib.hid hes
    have b4 : (pk L k != 117) = false := by simp [a4]
    clear hpk a1 a2 a3 a4 a5 hes
    go_enter Try.func69, Try.ntmps69
    go_wp2_with fail
    refine (rpeek_any p k n L v wh _ H.out).mono ?_
    rintro e w1 ⟨rfl, q, rfl⟩
    obtain ⟨⟨c0, c1, c2, c3, c4⟩, f2, f3, f4⟩ := cells5_of (H.out.drewN q).hh
    go_wp2_with fail
    refine (HAM.out _).mono ?_
    rintro e w2 ⟨rfl, rfl⟩
    have hE1 := (H.out.drewN q).at (k' := k + 1) (by omega)
    have hC1 := (Ch.drewN (w := w) p q).trans (Ch.set _ p 2 (.int .i64 ((k + 1 : Nat) : Int)))
    obtain ⟨X1, hX1⟩ : ∃ X1, X1 = (w.drewN q).setCell ⟨p, 2, none⟩ (.int .i64 ((k + 1 : Nat) : Int)) := ⟨_, rfl⟩
    rw [← hX1] at hE1 hC1
    have H1 := Lib.hid (And.intro hE1 hC1)
    have HX1 := Lib.hid hX1
    clear hX1 hE1 hC1
    go_wp2_with fail
    rw [show (w.drewN q).setCell ⟨p, 2, none⟩ (.int .i64 ((k : Int) + 1)) = X1 from HX1.out.symm]
    clear c0 c1 c2 c3 c4 f2 f3 f4 HX1
    refine (rtake_any p (k + 1) n L v wh 123 _ H1.out.1 (by decide)).mono ?_
    rintro e w3 (⟨ht, rfl, hE2, hC2⟩ | ⟨ht, rfl, hE2, hC2⟩)
    · have hes : esc L k = num L 7 0 0 (k + 2) := by rw [HES.out, if_pos ⟨by omega, by rw [ht]; decide⟩]
      have HE := Lib.hid hes
      have H2 := Lib.hid (And.intro hE2 (H1.out.2.trans hC2))
      clear hes ht hE2 hC2
      go_wp2_with fail
      go_loopg [4, 5, 6] 7 (fun g s4 s5 _ wx => ∃ (c : Nat) (m : Int) (kk : Nat), s4 = .int .i32 m ∧ s5 = .int .i64 c ∧ EI wx p L kk n v 0 wh ∧ Ch w wx p ∧ c + g = 7 ∧ 1 ≤ g ∧ 0 ≤ m ∧ m ≤ 1114111 ∧ num L 7 0 0 (k + 2) = num L g c m kk)
      case atStart => exact ⟨0, 0, k + 2, rfl, rfl, H2.out.1, H2.out.2, rfl, by omega, by omega, by omega, rfl⟩
      case round =>
        obtain ⟨c, m, kk, rfl, rfl, hE, hC, hcg, hg1, hm0, hm1, hnum⟩ := hrel
        obtain ⟨wo, rfl⟩ : ∃ wo : World, wo = wr := ⟨_, rfl⟩
        obtain ⟨g, rfl⟩ : ∃ g, gk = g + 1 := ⟨gk - 1, by omega⟩
        have HT := Lib.hid (And.intro hE hC)
        have HN := Lib.hid hnum
        have hc9 : (c : Int) ≤ 7 := by omega
        have hkk9 : kk ≤ 1000000 := Nat.le_trans hE.le hE.small
        have hpk := HS.out.pk kk
        have hscal := fun w => refScalar_any m w
        have HSC := Lib.hid hscal
        clear hE hC hnum hscal H2
        by_cases hc6 : c < 6
        · have hd6 : decide ((c : Int) < 6) = true := by simp; omega
          go_wp2_with fail
          refine (rpeek_any p kk n L v wh _ HT.out.1).mono ?_
          rintro e w4 ⟨rfl, q4, rfl⟩
          have hX := And.intro (HT.out.1.drewN q4) (HT.out.2.trans (Ch.drewN p q4))
          generalize wo.drewN q4 = X at hX ⊢
          have HX := Lib.hid hX
          clear hX
          obtain ⟨r, hr⟩ : ∃ r, r = pk L kk := ⟨_, rfl⟩
          rw [← hr]
          have hrb : -1 ≤ r ∧ r ≤ 1114111 := by
            rw [hr]
            rcases hpk with e | e
            · omega
            · have := e.2.1; have := e.2.2.1; omega
          obtain ⟨hrb0, hrb1⟩ := hrb
          have HPR := Lib.hid (And.intro hr hpk)
          clear hr hpk
          -- the digit
          have key : ∀ d : Int, d = dg r → -1 ≤ d → d ≤ 15 → True := fun _ _ _ _ => trivial
          clear key
          by_cases r1 : 48 ≤ r ∧ r ≤ 57
          · have hdg : dg r = r - 48 := by unfold dg; rw [if_pos r1]
            have e1 : decide ((48 : Int) ≤ r) = true := by simp; omega
            have e2 : decide (r ≤ (57 : Int)) = true := by simp; omega
            have hd0 : 0 ≤ r - 48 := by omega
            have hd15 : r - 48 ≤ 15 := by omega
            have hdn : decide (r - 48 < (0 : Int)) = false := by simp; omega
            have HDG := Lib.hid hdg
            have hw1 : IntKind.i32.wrap (m * 16) = m * 16 := wrap32_small _ (by omega) (by omega)
            have hw2 : IntKind.i32.wrap (m * 16 + (r - 48)) = m * 16 + (r - 48) := wrap32_small _ (by omega) (by omega)
            have hsc2 := fun w => refScalar_any (m * 16 + (r - 48)) w
            have HSC2 := Lib.hid hsc2
            clear hdg hsc2 r1
            by_cases hbig : m * 16 + (r - 48) ≤ 1114111
            · have hokk : dok c m (pk L kk) = true := by rw [← HPR.out.1]; unfold dok; rw [HDG.out, decide_eq_true hc6, decide_eq_true hd0, decide_eq_true hbig]; rfl
              have h0r : 0 ≤ pk L kk := by rw [← HPR.out.1]; omega
              have hne : ¬ (c ≠ 0 ∧ pk L kk = 125) := by rw [← HPR.out.1]; omega
              have hnx : num L 7 0 0 (k + 2) = num L g (c + 1) (m * 16 + (r - 48)) (kk + 1) := by rw [HN.out]; conv => lhs; unfold num; rw [if_neg hne, if_pos ⟨h0r, hokk⟩, ← HPR.out.1, HDG.out]
              have HNX := Lib.hid hnx
              have hkl5 : kk < L.length := pk_lt h0r
              have hdb : decide ((1114111 : Int) < m * 16 + (r - 48)) = false := by simp; omega
              have HBIG := Lib.hid hbig
              clear hnx hokk h0r hne hbig
              obtain ⟨⟨c0, c1, c2, c3, c4⟩, f2, f3, f4⟩ := cells5_of HX.out.1.hh
              cases hscal2 : Ru.scal (m * 16 + (r - 48)) with
              | true =>
                rw [hscal2] at HSC2
                clear hscal2
                go_wp2_with fail
                refine (HSC2.out _).mono ?_
                rintro e w5 ⟨rfl, rfl⟩
                go_wp2
                go_roundg g
                case measure => omega
                case rel => exact ⟨c + 1, m * 16 + (r - 48), kk + 1, by go_num, by go_num, by simpa using HX.out.1.at (k' := kk + 1) (by omega), HX.out.2.trans (Ch.set _ p 2 _), by omega, by omega, by omega, HBIG.out, HNX.out⟩
              | false =>
                rw [hscal2] at HSC2
                clear hscal2
                go_wp2_with fail
                refine (HSC2.out _).mono ?_
                rintro e w5 ⟨rfl, rfl⟩
                go_wp2
                go_roundg g
                case measure => omega
                case rel => exact ⟨c + 1, m * 16 + (r - 48), kk + 1, by go_num, by go_num, by simpa using HX.out.1.at (k' := kk + 1) (by omega), HX.out.2.trans (Ch.set _ p 2 _), by omega, by omega, by omega, HBIG.out, HNX.out⟩
            · have hnd : dok c m (pk L kk) = false := by rw [← HPR.out.1]; unfold dok; rw [HDG.out, decide_eq_false hbig]; simp
              have HND := Lib.hid hnd
              have hsn : Ru.scal (m * 16 + (r - 48)) = false := by rw [Ru.scal_not]; omega
              rw [hsn] at HSC2
              have hdb : decide ((1114111 : Int) < m * 16 + (r - 48)) = true := by simp; omega
              have h125 : ¬ pk L kk = 125 := by rw [← HPR.out.1]; omega
              clear hnd hsn hbig
              by_cases hc0 : c = 0
              · have t0 : ((c : Int) == 0) = true := by simp; omega
                have hnum : esc L k = .error kk := by rw [HE.out, HN.out]; unfold num; rw [if_neg (fun h => h.1 hc0), if_neg (fun h => by rw [HND.out] at h; cases h.2)]
                have HERR := Lib.hid hnum
                clear hnum hc0
                go_wp2_with fail
                refine (HSC2.out _).mono ?_
                rintro e w4 ⟨rfl, rfl⟩
                go_wp2_with fail
                have HY := HX
                refine (rfail_any p kk n L v wh _ HY.out.1).mono ?_
                rintro e w6 ⟨rfl, hE6, hC6⟩
                have HF := Lib.hid (And.intro hE6 hC6)
                clear hE6 hC6
                go_wp2
                go_ret
                exact re_no HERR.out HF.out.1 (HY.out.2.trans HF.out.2)
              · have t0 : ((c : Int) == 0) = false := by simp; omega
                have t1 : (pk L kk != 125) = true := by simpa using h125
                have hnum : esc L k = .error kk := by rw [HE.out, HN.out]; unfold num; rw [if_neg (fun h => h125 h.2), if_neg (fun h => by rw [HND.out] at h; cases h.2)]
                have HERR := Lib.hid hnum
                clear hnum hc0
                go_wp2_with fail
                refine (HSC2.out _).mono ?_
                rintro e w4 ⟨rfl, rfl⟩
                go_wp2_with fail
                refine (rpeek_any p kk n L v wh _ HX.out.1).mono ?_
                rintro e w5 ⟨rfl, q5, rfl⟩
                have HY := Lib.hid (And.intro (HX.out.1.drewN q5) (HX.out.2.trans (Ch.drewN p q5)))
                go_wp2_with fail
                refine (rfail_any p kk n L v wh _ HY.out.1).mono ?_
                rintro e w6 ⟨rfl, hE6, hC6⟩
                have HF := Lib.hid (And.intro hE6 hC6)
                clear hE6 hC6
                go_wp2
                go_ret
                exact re_no HERR.out HF.out.1 (HY.out.2.trans HF.out.2)
          · by_cases r2 : 65 ≤ r ∧ r ≤ 70
            · have hdg : dg r = r - 65 + 10 := by unfold dg; rw [if_neg r1, if_pos r2]; omega
              have e1 : decide ((48 : Int) ≤ r) = true := by simp; omega
              have e2 : decide (r ≤ (57 : Int)) = false := by simp; omega
              have e3 : decide ((65 : Int) ≤ r) = true := by simp; omega
              have e4 : decide (r ≤ (70 : Int)) = true := by simp; omega
              have hd0 : 0 ≤ r - 65 + 10 := by omega
              have hd15 : r - 65 + 10 ≤ 15 := by omega
              have hdn : decide (r - 65 + 10 < (0 : Int)) = false := by simp; omega
              have HDG := Lib.hid hdg
              have hw1 : IntKind.i32.wrap (m * 16) = m * 16 := wrap32_small _ (by omega) (by omega)
              have hw2 : IntKind.i32.wrap (m * 16 + (r - 65 + 10)) = m * 16 + (r - 65 + 10) := wrap32_small _ (by omega) (by omega)
              have hsc2 := fun w => refScalar_any (m * 16 + (r - 65 + 10)) w
              have HSC2 := Lib.hid hsc2
              clear hdg hsc2 r1 r2
              by_cases hbig : m * 16 + (r - 65 + 10) ≤ 1114111
              · have hokk : dok c m (pk L kk) = true := by rw [← HPR.out.1]; unfold dok; rw [HDG.out, decide_eq_true hc6, decide_eq_true hd0, decide_eq_true hbig]; rfl
                have h0r : 0 ≤ pk L kk := by rw [← HPR.out.1]; omega
                have hne : ¬ (c ≠ 0 ∧ pk L kk = 125) := by rw [← HPR.out.1]; omega
                have hnx : num L 7 0 0 (k + 2) = num L g (c + 1) (m * 16 + (r - 65 + 10)) (kk + 1) := by rw [HN.out]; conv => lhs; unfold num; rw [if_neg hne, if_pos ⟨h0r, hokk⟩, ← HPR.out.1, HDG.out]
                have HNX := Lib.hid hnx
                have hkl5 : kk < L.length := pk_lt h0r
                have hdb : decide ((1114111 : Int) < m * 16 + (r - 65 + 10)) = false := by simp; omega
                have HBIG := Lib.hid hbig
                clear hnx hokk h0r hne hbig
                obtain ⟨⟨c0, c1, c2, c3, c4⟩, f2, f3, f4⟩ := cells5_of HX.out.1.hh
                cases hscal2 : Ru.scal (m * 16 + (r - 65 + 10)) with
                | true =>
                  rw [hscal2] at HSC2
                  clear hscal2
                  go_wp2_with fail
                  refine (HSC2.out _).mono ?_
                  rintro e w5 ⟨rfl, rfl⟩
                  go_wp2
                  go_roundg g
                  case measure => omega
                  case rel => exact ⟨c + 1, m * 16 + (r - 65 + 10), kk + 1, by go_num, by go_num, by simpa using HX.out.1.at (k' := kk + 1) (by omega), HX.out.2.trans (Ch.set _ p 2 _), by omega, by omega, by omega, HBIG.out, HNX.out⟩
                | false =>
                  rw [hscal2] at HSC2
                  clear hscal2
                  go_wp2_with fail
                  refine (HSC2.out _).mono ?_
                  rintro e w5 ⟨rfl, rfl⟩
                  go_wp2
                  go_roundg g
                  case measure => omega
                  case rel => exact ⟨c + 1, m * 16 + (r - 65 + 10), kk + 1, by go_num, by go_num, by simpa using HX.out.1.at (k' := kk + 1) (by omega), HX.out.2.trans (Ch.set _ p 2 _), by omega, by omega, by omega, HBIG.out, HNX.out⟩
              · have hnd : dok c m (pk L kk) = false := by rw [← HPR.out.1]; unfold dok; rw [HDG.out, decide_eq_false hbig]; simp
                have HND := Lib.hid hnd
                have hsn : Ru.scal (m * 16 + (r - 65 + 10)) = false := by rw [Ru.scal_not]; omega
                rw [hsn] at HSC2
                have hdb : decide ((1114111 : Int) < m * 16 + (r - 65 + 10)) = true := by simp; omega
                have h125 : ¬ pk L kk = 125 := by rw [← HPR.out.1]; omega
                clear hnd hsn hbig
                by_cases hc0 : c = 0
                · have t0 : ((c : Int) == 0) = true := by simp; omega
                  have hnum : esc L k = .error kk := by rw [HE.out, HN.out]; unfold num; rw [if_neg (fun h => h.1 hc0), if_neg (fun h => by rw [HND.out] at h; cases h.2)]
                  have HERR := Lib.hid hnum
                  clear hnum hc0
                  go_wp2_with fail
                  refine (HSC2.out _).mono ?_
                  rintro e w4 ⟨rfl, rfl⟩
                  go_wp2_with fail
                  have HY := HX
                  refine (rfail_any p kk n L v wh _ HY.out.1).mono ?_
                  rintro e w6 ⟨rfl, hE6, hC6⟩
                  have HF := Lib.hid (And.intro hE6 hC6)
                  clear hE6 hC6
                  go_wp2
                  go_ret
                  exact re_no HERR.out HF.out.1 (HY.out.2.trans HF.out.2)
                · have t0 : ((c : Int) == 0) = false := by simp; omega
                  have t1 : (pk L kk != 125) = true := by simpa using h125
                  have hnum : esc L k = .error kk := by rw [HE.out, HN.out]; unfold num; rw [if_neg (fun h => h125 h.2), if_neg (fun h => by rw [HND.out] at h; cases h.2)]
                  have HERR := Lib.hid hnum
                  clear hnum hc0
                  go_wp2_with fail
                  refine (HSC2.out _).mono ?_
                  rintro e w4 ⟨rfl, rfl⟩
                  go_wp2_with fail
                  refine (rpeek_any p kk n L v wh _ HX.out.1).mono ?_
                  rintro e w5 ⟨rfl, q5, rfl⟩
                  have HY := Lib.hid (And.intro (HX.out.1.drewN q5) (HX.out.2.trans (Ch.drewN p q5)))
                  go_wp2_with fail
                  refine (rfail_any p kk n L v wh _ HY.out.1).mono ?_
                  rintro e w6 ⟨rfl, hE6, hC6⟩
                  have HF := Lib.hid (And.intro hE6 hC6)
                  clear hE6 hC6
                  go_wp2
                  go_ret
                  exact re_no HERR.out HF.out.1 (HY.out.2.trans HF.out.2)
            · by_cases r3 : 48 ≤ r
              · by_cases r4 : 65 ≤ r
                · have e1 : decide ((48 : Int) ≤ r) = true := by simp; omega
                  have e2 : decide (r ≤ (57 : Int)) = false := by simp; omega
                  have e3 : decide ((65 : Int) ≤ r) = true := by simp; omega
                  have e4 : decide (r ≤ (70 : Int)) = false := by simp; omega
                  have hdg : dg r = -1 := by unfold dg; rw [if_neg (by omega), if_neg (by omega)]
                  have hnd : dok c m (pk L kk) = false := by rw [← HPR.out.1]; unfold dok; rw [hdg]; simp
                  have HND := Lib.hid hnd
                  clear hnd hdg r1 r2 r3 r4
                  by_cases hc0 : c = 0
                  · have t0 : ((c : Int) == 0) = true := by simp; omega
                    have hnum : esc L k = .error kk := by rw [HE.out, HN.out]; unfold num; rw [if_neg (fun h => h.1 hc0), if_neg (fun h => by rw [HND.out] at h; cases h.2)]
                    have HERR := Lib.hid hnum
                    clear hnum hc0
                    go_wp2_with fail
                    have HY := HX
                    refine (rfail_any p kk n L v wh _ HY.out.1).mono ?_
                    rintro e w6 ⟨rfl, hE6, hC6⟩
                    have HF := Lib.hid (And.intro hE6 hC6)
                    clear hE6 hC6
                    go_wp2
                    go_ret
                    exact re_no HERR.out HF.out.1 (HY.out.2.trans HF.out.2)
                  · have t0 : ((c : Int) == 0) = false := by simp; omega
                    by_cases h125 : pk L kk = 125
                    · have t1 : (pk L kk != 125) = false := by simp [h125]
                      by_cases hsu : 55296 ≤ m ∧ m < 57344
                      · have hsv : Ru.scal m = false := by rw [Ru.scal_not]; omega
                        have hnum : esc L k = .error kk := by rw [HE.out, HN.out]; unfold num; rw [if_pos ⟨hc0, h125⟩, if_pos hsu]
                        have HERR := Lib.hid hnum
                        clear hnum hc0 h125 hsu
                        go_wp2_with fail
                        refine (rpeek_any p kk n L v wh _ HX.out.1).mono ?_
                        rintro e w5 ⟨rfl, q5, rfl⟩
                        have HY := Lib.hid (And.intro (HX.out.1.drewN q5) (HX.out.2.trans (Ch.drewN p q5)))
                        go_wp2_with fail
                        refine (HSC.out _).mono ?_
                        rintro e w5 ⟨rfl, rfl⟩
                        rw [hsv]
                        go_wp2_with fail
                        refine (rfail_any p kk n L v wh _ HY.out.1).mono ?_
                        rintro e w6 ⟨rfl, hE6, hC6⟩
                        have HF := Lib.hid (And.intro hE6 hC6)
                        clear hE6 hC6
                        go_wp2
                        go_ret
                        exact re_no HERR.out HF.out.1 (HY.out.2.trans HF.out.2)
                      · have hsv : Ru.scal m = true := by rw [Ru.scal_iff]; omega
                        have hnum : esc L k = .ok (m, kk + 1) := by rw [HE.out, HN.out]; unfold num; rw [if_pos ⟨hc0, h125⟩, if_neg hsu]
                        have HERR := Lib.hid hnum
                        have hkl5 : kk < L.length := pk_lt (L := L) (k := kk) (by omega)
                        clear hnum hc0 h125 hsu
                        go_wp2_with fail
                        refine (rpeek_any p kk n L v wh _ HX.out.1).mono ?_
                        rintro e w5 ⟨rfl, q5, rfl⟩
                        have HY := Lib.hid (And.intro (HX.out.1.drewN q5) (HX.out.2.trans (Ch.drewN p q5)))
                        go_wp2_with fail
                        refine (HSC.out _).mono ?_
                        rintro e w5 ⟨rfl, rfl⟩
                        rw [hsv]
                        obtain ⟨⟨c0, c1, c2, c3, c4⟩, f2, f3, f4⟩ := cells5_of HY.out.1.hh
                        go_wp2
                        go_ret
                        exact re_yes HERR.out (by simpa using HY.out.1.at (k' := kk + 1) (by omega)) (HY.out.2.trans (Ch.set _ p 2 _))
                    · have t1 : (pk L kk != 125) = true := by simpa using h125
                      have hnum : esc L k = .error kk := by rw [HE.out, HN.out]; unfold num; rw [if_neg (fun h => h125 h.2), if_neg (fun h => by rw [HND.out] at h; cases h.2)]
                      have HERR := Lib.hid hnum
                      clear hnum hc0
                      go_wp2_with fail
                      refine (rpeek_any p kk n L v wh _ HX.out.1).mono ?_
                      rintro e w5 ⟨rfl, q5, rfl⟩
                      have HY := Lib.hid (And.intro (HX.out.1.drewN q5) (HX.out.2.trans (Ch.drewN p q5)))
                      go_wp2_with fail
                      refine (rfail_any p kk n L v wh _ HY.out.1).mono ?_
                      rintro e w6 ⟨rfl, hE6, hC6⟩
                      have HF := Lib.hid (And.intro hE6 hC6)
                      clear hE6 hC6
                      go_wp2
                      go_ret
                      exact re_no HERR.out HF.out.1 (HY.out.2.trans HF.out.2)
                · have e1 : decide ((48 : Int) ≤ r) = true := by simp; omega
                  have e2 : decide (r ≤ (57 : Int)) = false := by simp; omega
                  have e3 : decide ((65 : Int) ≤ r) = false := by simp; omega
                  have hdg : dg r = -1 := by unfold dg; rw [if_neg (by omega), if_neg (by omega)]
                  have hnd : dok c m (pk L kk) = false := by rw [← HPR.out.1]; unfold dok; rw [hdg]; simp
                  have HND := Lib.hid hnd
                  clear hnd hdg r1 r2 r3 r4
                  by_cases hc0 : c = 0
                  · have t0 : ((c : Int) == 0) = true := by simp; omega
                    have hnum : esc L k = .error kk := by rw [HE.out, HN.out]; unfold num; rw [if_neg (fun h => h.1 hc0), if_neg (fun h => by rw [HND.out] at h; cases h.2)]
                    have HERR := Lib.hid hnum
                    clear hnum hc0
                    go_wp2_with fail
                    have HY := HX
                    refine (rfail_any p kk n L v wh _ HY.out.1).mono ?_
                    rintro e w6 ⟨rfl, hE6, hC6⟩
                    have HF := Lib.hid (And.intro hE6 hC6)
                    clear hE6 hC6
                    go_wp2
                    go_ret
                    exact re_no HERR.out HF.out.1 (HY.out.2.trans HF.out.2)
                  · have t0 : ((c : Int) == 0) = false := by simp; omega
                    by_cases h125 : pk L kk = 125
                    · have t1 : (pk L kk != 125) = false := by simp [h125]
                      by_cases hsu : 55296 ≤ m ∧ m < 57344
                      · have hsv : Ru.scal m = false := by rw [Ru.scal_not]; omega
                        have hnum : esc L k = .error kk := by rw [HE.out, HN.out]; unfold num; rw [if_pos ⟨hc0, h125⟩, if_pos hsu]
                        have HERR := Lib.hid hnum
                        clear hnum hc0 h125 hsu
                        go_wp2_with fail
                        refine (rpeek_any p kk n L v wh _ HX.out.1).mono ?_
                        rintro e w5 ⟨rfl, q5, rfl⟩
                        have HY := Lib.hid (And.intro (HX.out.1.drewN q5) (HX.out.2.trans (Ch.drewN p q5)))
                        go_wp2_with fail
                        refine (HSC.out _).mono ?_
                        rintro e w5 ⟨rfl, rfl⟩
                        rw [hsv]
                        go_wp2_with fail
                        refine (rfail_any p kk n L v wh _ HY.out.1).mono ?_
                        rintro e w6 ⟨rfl, hE6, hC6⟩
                        have HF := Lib.hid (And.intro hE6 hC6)
                        clear hE6 hC6
                        go_wp2
                        go_ret
                        exact re_no HERR.out HF.out.1 (HY.out.2.trans HF.out.2)
                      · have hsv : Ru.scal m = true := by rw [Ru.scal_iff]; omega
                        have hnum : esc L k = .ok (m, kk + 1) := by rw [HE.out, HN.out]; unfold num; rw [if_pos ⟨hc0, h125⟩, if_neg hsu]
                        have HERR := Lib.hid hnum
                        have hkl5 : kk < L.length := pk_lt (L := L) (k := kk) (by omega)
                        clear hnum hc0 h125 hsu
                        go_wp2_with fail
                        refine (rpeek_any p kk n L v wh _ HX.out.1).mono ?_
                        rintro e w5 ⟨rfl, q5, rfl⟩
                        have HY := Lib.hid (And.intro (HX.out.1.drewN q5) (HX.out.2.trans (Ch.drewN p q5)))
                        go_wp2_with fail
                        refine (HSC.out _).mono ?_
                        rintro e w5 ⟨rfl, rfl⟩
                        rw [hsv]
                        obtain ⟨⟨c0, c1, c2, c3, c4⟩, f2, f3, f4⟩ := cells5_of HY.out.1.hh
                        go_wp2
                        go_ret
                        exact re_yes HERR.out (by simpa using HY.out.1.at (k' := kk + 1) (by omega)) (HY.out.2.trans (Ch.set _ p 2 _))
                    · have t1 : (pk L kk != 125) = true := by simpa using h125
                      have hnum : esc L k = .error kk := by rw [HE.out, HN.out]; unfold num; rw [if_neg (fun h => h125 h.2), if_neg (fun h => by rw [HND.out] at h; cases h.2)]
                      have HERR := Lib.hid hnum
                      clear hnum hc0
                      go_wp2_with fail
                      refine (rpeek_any p kk n L v wh _ HX.out.1).mono ?_
                      rintro e w5 ⟨rfl, q5, rfl⟩
                      have HY := Lib.hid (And.intro (HX.out.1.drewN q5) (HX.out.2.trans (Ch.drewN p q5)))
                      go_wp2_with fail
                      refine (rfail_any p kk n L v wh _ HY.out.1).mono ?_
                      rintro e w6 ⟨rfl, hE6, hC6⟩
                      have HF := Lib.hid (And.intro hE6 hC6)
                      clear hE6 hC6
                      go_wp2
                      go_ret
                      exact re_no HERR.out HF.out.1 (HY.out.2.trans HF.out.2)
              · have e1 : decide ((48 : Int) ≤ r) = false := by simp; omega
                have e3 : decide ((65 : Int) ≤ r) = false := by simp; omega
                have hdg : dg r = -1 := by unfold dg; rw [if_neg (by omega), if_neg (by omega)]
                have hnd : dok c m (pk L kk) = false := by rw [← HPR.out.1]; unfold dok; rw [hdg]; simp
                have HND := Lib.hid hnd
                clear hnd hdg r1 r2 r3
                by_cases hc0 : c = 0
                · have t0 : ((c : Int) == 0) = true := by simp; omega
                  have hnum : esc L k = .error kk := by rw [HE.out, HN.out]; unfold num; rw [if_neg (fun h => h.1 hc0), if_neg (fun h => by rw [HND.out] at h; cases h.2)]
                  have HERR := Lib.hid hnum
                  clear hnum hc0
                  go_wp2_with fail
                  have HY := HX
                  refine (rfail_any p kk n L v wh _ HY.out.1).mono ?_
                  rintro e w6 ⟨rfl, hE6, hC6⟩
                  have HF := Lib.hid (And.intro hE6 hC6)
                  clear hE6 hC6
                  go_wp2
                  go_ret
                  exact re_no HERR.out HF.out.1 (HY.out.2.trans HF.out.2)
                · have t0 : ((c : Int) == 0) = false := by simp; omega
                  by_cases h125 : pk L kk = 125
                  · have t1 : (pk L kk != 125) = false := by simp [h125]
                    by_cases hsu : 55296 ≤ m ∧ m < 57344
                    · have hsv : Ru.scal m = false := by rw [Ru.scal_not]; omega
                      have hnum : esc L k = .error kk := by rw [HE.out, HN.out]; unfold num; rw [if_pos ⟨hc0, h125⟩, if_pos hsu]
                      have HERR := Lib.hid hnum
                      clear hnum hc0 h125 hsu
                      go_wp2_with fail
                      refine (rpeek_any p kk n L v wh _ HX.out.1).mono ?_
                      rintro e w5 ⟨rfl, q5, rfl⟩
                      have HY := Lib.hid (And.intro (HX.out.1.drewN q5) (HX.out.2.trans (Ch.drewN p q5)))
                      go_wp2_with fail
                      refine (HSC.out _).mono ?_
                      rintro e w5 ⟨rfl, rfl⟩
                      rw [hsv]
                      go_wp2_with fail
                      refine (rfail_any p kk n L v wh _ HY.out.1).mono ?_
                      rintro e w6 ⟨rfl, hE6, hC6⟩
                      have HF := Lib.hid (And.intro hE6 hC6)
                      clear hE6 hC6
                      go_wp2
                      go_ret
                      exact re_no HERR.out HF.out.1 (HY.out.2.trans HF.out.2)
                    · have hsv : Ru.scal m = true := by rw [Ru.scal_iff]; omega
                      have hnum : esc L k = .ok (m, kk + 1) := by rw [HE.out, HN.out]; unfold num; rw [if_pos ⟨hc0, h125⟩, if_neg hsu]
                      have HERR := Lib.hid hnum
                      have hkl5 : kk < L.length := pk_lt (L := L) (k := kk) (by omega)
                      clear hnum hc0 h125 hsu
                      go_wp2_with fail
                      refine (rpeek_any p kk n L v wh _ HX.out.1).mono ?_
                      rintro e w5 ⟨rfl, q5, rfl⟩
                      have HY := Lib.hid (And.intro (HX.out.1.drewN q5) (HX.out.2.trans (Ch.drewN p q5)))
                      go_wp2_with fail
                      refine (HSC.out _).mono ?_
                      rintro e w5 ⟨rfl, rfl⟩
                      rw [hsv]
                      obtain ⟨⟨c0, c1, c2, c3, c4⟩, f2, f3, f4⟩ := cells5_of HY.out.1.hh
                      go_wp2
                      go_ret
                      exact re_yes HERR.out (by simpa using HY.out.1.at (k' := kk + 1) (by omega)) (HY.out.2.trans (Ch.set _ p 2 _))
                  · have t1 : (pk L kk != 125) = true := by simpa using h125
                    have hnum : esc L k = .error kk := by rw [HE.out, HN.out]; unfold num; rw [if_neg (fun h => h125 h.2), if_neg (fun h => by rw [HND.out] at h; cases h.2)]
                    have HERR := Lib.hid hnum
                    clear hnum hc0
                    go_wp2_with fail
                    refine (rpeek_any p kk n L v wh _ HX.out.1).mono ?_
                    rintro e w5 ⟨rfl, q5, rfl⟩
                    have HY := Lib.hid (And.intro (HX.out.1.drewN q5) (HX.out.2.trans (Ch.drewN p q5)))
                    go_wp2_with fail
                    refine (rfail_any p kk n L v wh _ HY.out.1).mono ?_
                    rintro e w6 ⟨rfl, hE6, hC6⟩
                    have HF := Lib.hid (And.intro hE6 hC6)
                    clear hE6 hC6
                    go_wp2
                    go_ret
                    exact re_no HERR.out HF.out.1 (HY.out.2.trans HF.out.2)
        · have hd6 : decide ((c : Int) < 6) = false := by simp; omega
          have hc0 : ¬ c = 0 := by omega
          have t0 : ((c : Int) == 0) = false := by simp; omega
          have hnd : dok c m (pk L kk) = false := by unfold dok; rw [decide_eq_false hc6]; rfl
          have HX := HT
          have HND := Lib.hid hnd
          clear hnd hpk
          by_cases h125 : pk L kk = 125
          · have t1 : (pk L kk != 125) = false := by simp [h125]
            by_cases hsu : 55296 ≤ m ∧ m < 57344
            · have hsv : Ru.scal m = false := by rw [Ru.scal_not]; omega
              have hnum : esc L k = .error kk := by rw [HE.out, HN.out]; unfold num; rw [if_pos ⟨hc0, h125⟩, if_pos hsu]
              have HERR := Lib.hid hnum
              clear hnum hc0 h125 hsu
              go_wp2_with fail
              refine (rpeek_any p kk n L v wh _ HX.out.1).mono ?_
              rintro e w5 ⟨rfl, q5, rfl⟩
              have HY := Lib.hid (And.intro (HX.out.1.drewN q5) (HX.out.2.trans (Ch.drewN p q5)))
              go_wp2_with fail
              refine (HSC.out _).mono ?_
              rintro e w5 ⟨rfl, rfl⟩
              rw [hsv]
              go_wp2_with fail
              refine (rfail_any p kk n L v wh _ HY.out.1).mono ?_
              rintro e w6 ⟨rfl, hE6, hC6⟩
              have HF := Lib.hid (And.intro hE6 hC6)
              clear hE6 hC6
              go_wp2
              go_ret
              exact re_no HERR.out HF.out.1 (HY.out.2.trans HF.out.2)
            · have hsv : Ru.scal m = true := by rw [Ru.scal_iff]; omega
              have hnum : esc L k = .ok (m, kk + 1) := by rw [HE.out, HN.out]; unfold num; rw [if_pos ⟨hc0, h125⟩, if_neg hsu]
              have HERR := Lib.hid hnum
              have hkl5 : kk < L.length := pk_lt (L := L) (k := kk) (by omega)
              clear hnum hc0 h125 hsu
              go_wp2_with fail
              refine (rpeek_any p kk n L v wh _ HX.out.1).mono ?_
              rintro e w5 ⟨rfl, q5, rfl⟩
              have HY := Lib.hid (And.intro (HX.out.1.drewN q5) (HX.out.2.trans (Ch.drewN p q5)))
              go_wp2_with fail
              refine (HSC.out _).mono ?_
              rintro e w5 ⟨rfl, rfl⟩
              rw [hsv]
              obtain ⟨⟨c0, c1, c2, c3, c4⟩, f2, f3, f4⟩ := cells5_of HY.out.1.hh
              go_wp2
              go_ret
              exact re_yes HERR.out (by simpa using HY.out.1.at (k' := kk + 1) (by omega)) (HY.out.2.trans (Ch.set _ p 2 _))
          · have t1 : (pk L kk != 125) = true := by simpa using h125
            have hnum : esc L k = .error kk := by rw [HE.out, HN.out]; unfold num; rw [if_neg (fun h => h125 h.2), if_neg (fun h => by rw [HND.out] at h; cases h.2)]
            have HERR := Lib.hid hnum
            clear hnum hc0
            go_wp2_with fail
            refine (rpeek_any p kk n L v wh _ HX.out.1).mono ?_
            rintro e w5 ⟨rfl, q5, rfl⟩
            have HY := Lib.hid (And.intro (HX.out.1.drewN q5) (HX.out.2.trans (Ch.drewN p q5)))
            go_wp2_with fail
            refine (rfail_any p kk n L v wh _ HY.out.1).mono ?_
            rintro e w6 ⟨rfl, hE6, hC6⟩
            have HF := Lib.hid (And.intro hE6 hC6)
            clear hE6 hC6
            go_wp2
            go_ret
            exact re_no HERR.out HF.out.1 (HY.out.2.trans HF.out.2)
    · have hes : esc L k = .error (k + 1) := by
        rw [HES.out, if_neg]
        rintro ⟨_, h3⟩
        unfold ok3 at h3
        rw [decide_eq_true_eq] at h3
        exact ht h3
      have HE := Lib.hid (And.intro hes (And.intro hE2 (H1.out.2.trans hC2)))
      clear hes ht hE2 hC2
      go_wp2_with fail
      refine (rfail_any p (k + 1) n L v wh _ HE.out.2.1).mono ?_
      rintro e w5 ⟨rfl, hE5, hC5⟩
      have HF := Lib.hid (And.intro hE5 hC5)
      clear hE5 hC5
      go_wp2
      go_ret
      exact re_no HE.out.1 HF.out.1 (HE.out.2.2.trans HF.out.2)
  · have b4 : (pk L k != 117) = true := by simpa using a4
    have hes : esc L k = .error k := by
      unfold esc
      rw [if_neg]
      rintro ⟨_, h2⟩
      unfold ok2 at h2
      rw [decide_eq_true_eq] at h2
      unfold lst2 at h2
      unfold lst3 at a5
      simp only [List.mem_cons, List.not_mem_nil, or_false] at h2 a5
      omega
    have HE := Lib.hid hes
    clear hpk a1 a2 a3 a4 a5 hes
    go_enter Try.func69, Try.ntmps69
    go_wp2_with fail
    refine (rpeek_any p k n L v wh _ H.out).mono ?_
    rintro e w1 ⟨rfl, q, rfl⟩
    go_wp2_with fail
    refine (HAM.out _).mono ?_
    rintro e w2 ⟨rfl, rfl⟩
    go_wp2_with fail
    refine (rfail_any p k n L v wh _ (H.out.drewN q)).mono ?_
    rintro e w5 ⟨rfl, hE5, hC5⟩
    have HF := Lib.hid (And.intro hE5 hC5)
    clear hE5 hC5
    go_wp2
    go_ret
    exact re_no HE.out HF.out.1 ((Ch.drewN p q).trans HF.out.2)
end Go.Proofs.Ytkngppkchaadhaa
