/- word: firstBad. -/
import Derived.Test.YtkngppkchaadhaaWordOne
import Derived.Test.YtkngppkchaadhaaDecItem0
import Derived.Test.YtkngppkchaadhaaConvApp
set_option linter.unusedVariables false
set_option linter.unusedSimpArgs false
namespace Go.Proofs.Ytkngppkchaadhaa
open Go.RowKit De Wd

theorem isBad_any (x : It) (f : Int) (w : World) : Calls Try.prog 30 #[.agg #[.int .i32 x.r, .int .i64 f, .int .i64 (f + x.n), .bool x.bad, .bool x.more]] w fun e w' => e = .returned (.bool x.bad) ∧ Below w.heap.size w w' := by
  go_enter Try.func30, Try.ntmps30
  go_wp2
  go_ret
  exact ⟨rfl, bel_new (Below.refl _ _) _⟩
namespace Wd
/-- which item is the first bad one -/
def ib (L : List (Nat × It)) : Int := match L.findIdx? (·.2.bad) with | some i => i | none => -1
theorem find_step (L : List (Nat × It)) (k : Nat) (p : Nat × It) (h0 : ∀ j q, j < k → L[j]? = some q → q.2.bad = false) (hk : L[k]? = some p) (hp : p.2.bad = false) : ∀ j q, j < k + 1 → L[j]? = some q → q.2.bad = false := by
  intro j q hj hq
  by_cases e : j = k
  · subst e; rw [hk] at hq; cases hq; exact hp
  · exact h0 j q (by omega) hq
theorem ib_hit (L : List (Nat × It)) (k : Nat) (p : Nat × It) (h0 : ∀ j q, j < k → L[j]? = some q → q.2.bad = false) (hk : L[k]? = some p) (hp : p.2.bad = true) : ib L = k ∧ L.find? (·.2.bad) = some p := by
  induction L generalizing k with
  | nil => simp at hk
  | cons a L ih =>
    cases k with
    | zero =>
      simp at hk; subst hk
      simp [ib, List.findIdx?_cons, hp, List.find?_cons]
    | succ k =>
      have ha := h0 0 a (by omega) (by simp)
      have := ih k (fun j q hj hq => h0 (j + 1) q (by omega) (by simpa using hq)) (by simpa using hk)
      refine ⟨?_, by simp [List.find?_cons, ha, this.2]⟩
      have h1 := this.1
      unfold ib at h1 ⊢
      rw [List.findIdx?_cons, ha]
      cases hf : L.findIdx? (·.2.bad) with
      | none => rw [hf] at h1; simp at h1 <;> omega
      | some i => rw [hf] at h1; simp at h1 ⊢; omega
theorem ib_none (L : List (Nat × It)) (h0 : ∀ j q, j < L.length → L[j]? = some q → q.2.bad = false) : ib L = -1 ∧ L.find? (·.2.bad) = none := by
  have h : ∀ q ∈ L, q.2.bad = false := by
    intro q hq
    obtain ⟨j, hj⟩ := List.mem_iff_getElem?.1 hq
    exact h0 j q (List.getElem?_eq_some_iff.1 hj).1 hj
  refine ⟨?_, ?_⟩
  · have : L.findIdx? (·.2.bad) = none := by rw [List.findIdx?_eq_none_iff]; exact h
    unfold ib; rw [this]
  · rw [List.find?_eq_none]; intro q hq; simp [h q hq]
end Wd

set_option maxHeartbeats 2000000 in
set_option maxRecDepth 100000 in
theorem indexBad_any (L : List (Nat × It)) (v : Value) (w : World) (hr : Row w v L.length (itsc L)) (hl : L.length ≤ 1000000) :
    Calls Try.prog 29 #[v, .func (Fn.func 30) #[] #[]] w fun e w' => e = .returned (.int .i64 (ib L)) ∧ Below w.heap.size w w' := by
  have HR := Lib.hid hr
  obtain ⟨o, cap, rfl, _⟩ := hr
  go_enter Try.func29, Try.ntmps29
  go_wp2_with fail
  go_loopw [8, 5] (fun n i wr => ∃ k : Nat, k ≤ L.length ∧ n = .int .i64 k ∧ (∀ j q, j < k → L[j]? = some q → q.2.bad = false) ∧ Below w.heap.size w wr) (fun n _ _ => L.length - (intOf n).toNat)
  case atStart => exact ⟨0, Nat.zero_le _, rfl, fun j q hj => by omega, Below.refl _ _⟩
  case round =>
    obtain ⟨k, hk, rfl, hb, hbel⟩ := hrel
    obtain ⟨wo, rfl⟩ : ∃ wo : World, wo = wr := ⟨_, rfl⟩
    have HB := Lib.hid (And.intro hb hbel)
    clear hb hbel
    by_cases hlt : k < L.length
    · obtain ⟨p, hp⟩ : ∃ p, L[k]? = some p := ⟨L[k], List.getElem?_eq_getElem hlt⟩
      obtain ⟨b1, f1, k1, e1, hb1, a0, a1, a2, a3, a4⟩ := (HR.out.below HB.out.2).item hp
      simp only [Value.slice.injEq, true_and] at e1
      obtain ⟨rfl, rfl⟩ := e1
      obtain ⟨pf, x⟩ := p
      have HP := Lib.hid hp
      simp only at a0 a1 a2 a3 a4
      clear hp
      have hc := fun w => isBad_any x (pf : Int) w
      have HC := Lib.hid hc
      clear hc
      have hii : (0 : Int) ≤ (k : Int) := by omega
      have hij : (k : Int) < (L.length : Int) := by omega
      cases hbad : x.bad with
      | true =>
        have hx := ib_hit L k _ HB.out.1 HP.out hbad
        have HX := Lib.hid hx
        rw [hbad] at HC a3
        clear hx hbad
        go_wp2_with fail
        refine (HC.out _).mono ?_
        rintro e w1 ⟨rfl, hb1⟩
        go_wp2
        go_ret
        exact ⟨by rw [HX.out.1]; rfl, HB.out.2.trans (hb1.mono HB.out.2.size)⟩
      | false =>
        have hx := find_step L k _ HB.out.1 HP.out hbad
        have HX := Lib.hid hx
        rw [hbad] at HC a3
        clear hx hbad
        go_wp2_with fail
        refine (HC.out _).mono ?_
        rintro e w1 ⟨rfl, hb1⟩
        have hB1 := HB.out.2.trans (hb1.mono HB.out.2.size)
        go_wp2
        go_roundw
        case rel => exact ⟨k + 1, by omega, by go_num, HX.out, hB1⟩
        case measure => simp [intOf]; omega
    · have hkn : k = L.length := by omega
      subst hkn
      have hx := ib_none L HB.out.1
      have HX := Lib.hid hx
      clear hx
      go_wp2
      go_ret
      exact ⟨by rw [HX.out.1]; rfl, HB.out.2⟩
theorem convRow (w : World) (s : ByteArray) (hs : s.size ≤ 100000) : Row (Lib.bytesWorld w 5 s) (.slice (some ⟨w.heap.size, 0, none⟩) s.size (grownCap w s.size 0 5)) (sb s).length ((sb s).map (Value.int .u8)) :=
  ⟨_, _, by rw [sb_len], by rw [sb_len]; exact grownCap_ge w s.size 0 _, grownCap_le_maxLen w s.size 0 _ (by unfold maxLen; omega), .inr ⟨w.heap.size, 0, rfl, by rw [Lib.bytesWorld_size]; omega, convW_cells w _ s⟩⟩
theorem fb_some {l : List Int} {p : Nat × It} {L : List (Nat × It)} (hL : L = all 0 l) (h : L.find? (·.2.bad) = some p) : fb l = p.1 := by unfold fb; rw [← hL, h]
theorem fb_none {l : List Int} {L : List (Nat × It)} (hL : L = all 0 l) (h : L.find? (·.2.bad) = none) : fb l = l.length := by unfold fb; rw [← hL, h]
set_option maxHeartbeats 2000000 in
set_option maxRecDepth 100000 in
theorem firstBad_any (s : ByteArray) (w : World) (hs : s.size ≤ 100000) : Calls Try.prog 15 #[.string s] w fun e w' => e = .returned (.int .i64 (fb (sb s))) ∧ Below w.heap.size w w' := by
  have hconv := fun w => Lib.run_convert_string_bytes (P := Try.prog) w 9 40 5 s Try.underlying9 Try.underlying40 Try.underlying5
  have hall := all_any (sb s) (.slice (some ⟨w.heap.size, 0, none⟩) s.size (grownCap w s.size 0 5)) (Lib.bytesWorld w 5 s) (convRow w s hs) (sb_u8 s) (by rw [sb_len]; omega)
  have hlen := all_len 0 (sb s)
  rw [sb_len] at hlen
  obtain ⟨L, hL⟩ : ∃ L, L = all 0 (sb s) := ⟨_, rfl⟩
  rw [← hL] at hall hlen
  have HA := Lib.hid hall
  have HL := Lib.hid hL
  clear hall hL
  go_enter Try.func15, Try.ntmps15
  go_wp2_with fail
  refine HA.out.mono ?_
  rintro e w1 ⟨u, rfl, hown, hb1⟩
  have hB1 : Below w.heap.size w w1 := bel_then (convW_below w _ s) hb1
  obtain ⟨ou, cu, rfl⟩ := owns_slice hown
  have HO := Lib.hid (And.intro hown hB1)
  clear hown hb1 hB1 hconv
  go_wp2_with fail
  refine (indexBad_any L _ _ (Row.owned HO.out.1) (by omega)).mono ?_
  rintro e w2 ⟨rfl, hb2⟩
  have hB2 : Below w.heap.size w w2 := HO.out.2.trans (hb2.mono HO.out.2.size)
  cases hf : L.find? (·.2.bad) with
  | none =>
    have h0 : ∀ j q, j < L.length → L[j]? = some q → q.2.bad = false := by
      intro j q hj hq
      have := List.find?_eq_none.1 hf q (List.mem_of_getElem? hq)
      simpa using this
    have h1 := fb_none HL.out hf
    rw [(ib_none L h0).1]
    have H1 := Lib.hid h1
    have HB := Lib.hid hB2
    clear hf h0 h1 hB2 hb2
    go_wp2
    go_ret
    exact ⟨by rw [H1.out, sb_len]; rfl, HB.out⟩
  | some p =>
    obtain ⟨k, hk, hkp, hpb, hkb⟩ : ∃ k, k < L.length ∧ L[k]? = some p ∧ p.2.bad = true ∧ ∀ j q, j < k → L[j]? = some q → q.2.bad = false := by
      obtain ⟨hpb, xs, ys, e, hn⟩ := List.find?_eq_some_iff_append.1 hf
      refine ⟨xs.length, by rw [e]; simp, by rw [e]; simp, hpb, fun j q hj hq => ?_⟩
      rw [e, List.getElem?_append_left hj] at hq
      have := hn q (List.mem_of_getElem? hq)
      simpa using this
    have h1 := fb_some HL.out hf
    rw [(ib_hit L k p hkb hkp hpb).1]
    obtain ⟨b1, f1, k1, e1, hb1, a0, a1, a2, a3, a4⟩ := ((Row.owned HO.out.1).below hb2).item hkp
    simp only [Value.slice.injEq, true_and] at e1
    obtain ⟨rfl, rfl⟩ := e1
    have H1 := Lib.hid h1
    have HB := Lib.hid hB2
    have hii : (0 : Int) ≤ (k : Int) := by omega
    have hij : (k : Int) < (L.length : Int) := by omega
    have hik : decide ((k : Int) < 0) = false := by simp <;> omega
    clear hf hkb hkp h1 hB2 hb2 hpb
    go_wp2
    go_ret
    exact ⟨by rw [H1.out]; rfl, HB.out⟩
end Go.Proofs.Ytkngppkchaadhaa
