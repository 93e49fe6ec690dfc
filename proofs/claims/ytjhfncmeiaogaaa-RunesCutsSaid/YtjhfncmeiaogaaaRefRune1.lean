/- runes, the reference: place, at, in, cells. -/
import Derived.Test.YtjhfncmeiaogaaaRuneSame
set_option linter.unusedVariables false
set_option linter.unusedSimpArgs false
namespace Go.Proofs.Ytjhfncmeiaogaaa
open Go.RowKit Ru

theorem refAt_any (p : Int) (w : World) (hp : 0 ≤ p ∧ p ≤ 1112064) : Calls Try.prog 66 #[.int .i64 p] w fun e w' => e = .returned (.int .i32 (vlu p)) ∧ w = w' := by
  go_enter Try.func66, Try.ntmps66
  by_cases h1 : p < 55296
  · have h2 : decide (55296 ≤ p) = false := by simpa using h1
    go_wp2
    go_ret
    exact ⟨ret_int (by unfold vlu; simp [IntKind.wrap, IntKind.bits, IntKind.signed]; (repeat' split) <;> omega), rfl⟩
  · have h2 : decide (55296 ≤ p) = true := by simpa using h1
    go_wp2
    go_ret
    exact ⟨ret_int (by unfold vlu; simp [IntKind.wrap, IntKind.bits, IntKind.signed]; (repeat' split) <;> omega), rfl⟩

/-- the reference's place from above, one further -/
def plu (n : Int) : Int := if scal n = true then plc n else plc n - 1
theorem refPlace_up (r : Int) (w : World) (hr : -2147483648 ≤ r ∧ r ≤ 2147483647) : Calls Try.prog 77 #[.int .i64 r, .bool true] w fun e w' => e = .returned (.int .i64 (plc r)) ∧ w = w' := by
  go_enter Try.func77, Try.ntmps77
  by_cases h1 : r < 0
  · go_wp2
    go_ret
    exact ⟨ret_int (by unfold plc; (repeat' split) <;> omega), rfl⟩
  by_cases h2 : r < 55296
  · go_wp2
    go_ret
    exact ⟨ret_int (by unfold plc; (repeat' split) <;> omega), rfl⟩
  by_cases h3 : r ≤ 57343
  · go_wp2
    go_ret
    exact ⟨ret_int (by unfold plc; (repeat' split) <;> omega), rfl⟩
  by_cases h4 : 1114111 < r
  · go_wp2
    go_ret
    exact ⟨ret_int (by unfold plc; (repeat' split) <;> omega), rfl⟩
  · go_wp2
    go_ret
    exact ⟨ret_int (by unfold plc; (repeat' split) <;> omega), rfl⟩
theorem refPlace_down (r : Int) (w : World) (h0 : 0 ≤ r) (hr : -2147483648 ≤ r ∧ r ≤ 2147483647) : Calls Try.prog 77 #[.int .i64 r, .bool false] w fun e w' => e = .returned (.int .i64 (plu r)) ∧ w = w' := by
  have hb : plu r = if scal r = true then plc r else plc r - 1 := rfl
  have hs := scal_iff r
  go_enter Try.func77, Try.ntmps77
  have h1 : decide (r < 0) = false := by simpa using h0
  by_cases h2 : r < 55296
  · rw [if_pos (hs.2 ⟨by omega, by omega, by omega⟩)] at hb
    go_wp2
    go_ret
    exact ⟨ret_int (by (try rw [hb]); unfold plc; (repeat' split) <;> omega), rfl⟩
  by_cases h3 : r ≤ 57343
  · rw [if_neg (fun h => by have := hs.1 h; omega)] at hb
    go_wp2
    go_ret
    exact ⟨ret_int (by (try rw [hb]); unfold plc; (repeat' split) <;> omega), rfl⟩
  by_cases h4 : 1114111 < r
  · rw [if_neg (fun h => by have := hs.1 h; omega)] at hb
    go_wp2
    go_ret
    exact ⟨ret_int (by (try rw [hb]); unfold plc; (repeat' split) <;> omega), rfl⟩
  · rw [if_pos (hs.2 ⟨by omega, by omega, by omega⟩)] at hb
    go_wp2
    go_ret
    exact ⟨ret_int (by (try rw [hb]); unfold plc; (repeat' split) <;> omega), rfl⟩
theorem pcOf_plu (x : Pc) : pcOf x = (plc x.1, plu x.2 + 1) := by
  unfold pcOf plu
  split <;> simp <;> omega

namespace Ru
theorem raw_skip {x : Pc} (h : x.2 < x.1 ∨ x.2 < 0 ∨ 1114111 < x.1) : ¬ (pcOf x).1 < (pcOf x).2 := by
  unfold pcOf
  by_cases hs : scal x.2 = true
  · simp only [hs, if_true]; rw [scal_iff] at hs; unfold plc; repeat' split <;> omega
  · simp only [hs]; rw [scal_iff] at hs; simp only [Bool.false_eq_true, if_false]; unfold plc; repeat' split <;> omega
end Ru

set_option maxHeartbeats 1000000 in
set_option maxRecDepth 1000000 in
theorem refIn_any (P : List Pc) (v : Value) (p : Int) (w : World) (hr : Row w v P.length (flatK .i64 P)) (hn : P.length ≤ 10000000) :
    Calls Try.prog 65 #[v, .int .i64 p] w fun e w' => e = .returned (.bool (inB P p)) ∧ w' = w := by
  have Hr := Lib.hid hr
  obtain ⟨o, cap, rfl, hcap, hmax, _⟩ := hr
  go_enter Try.func65, Try.ntmps65
  go_wp2_with fail
  go_loopw [5] (fun i wr => ∃ k : Nat, k ≤ P.length ∧ i = .int .i64 k ∧ wr = w ∧ inB (P.take k) p = false)
    (fun i _ => P.length - (intOf i).toNat)
  case atStart => exact ⟨0, Nat.zero_le _, rfl, rfl, rfl⟩
  case round =>
    obtain ⟨k, hk, rfl, rfl, hno⟩ := hrel
    by_cases hk2 : k < P.length
    · obtain ⟨b, off, cap', e, hlt⟩ := Hr.out.head (by omega)
      simp only [Value.slice.injEq, true_and] at e
      obtain ⟨rfl, rfl⟩ := e
      obtain ⟨_, c1, c2⟩ := Hr.out.pair hk2 rfl
      have hs := take_one P (0, 0) k hk2
      obtain ⟨q, hq⟩ : ∃ q, q = P.getD k (0, 0) := ⟨_, rfl⟩
      rw [← hq] at c1 c2 hs
      have hm : q ∈ P := by rw [hq]; simp [List.getD, List.getElem?_eq_getElem hk2]
      obtain ⟨a, c⟩ := q
      simp only at c1 c2
      have Hs := Lib.hid (And.intro hs (And.intro hno hm))
      clear hs hq hno hm
      by_cases h1 : a ≤ p
      · by_cases h2 : p < c
        · go_wp2
          go_ret
          exact ⟨by rw [(inB_iff P p).2 ⟨_, Hs.out.2.2, h1, h2⟩]; rfl, by first | rfl | trivial⟩
        · go_wp2
          go_roundw
          case rel => exact ⟨k + 1, by omega, by go_num, by first | rfl | trivial, by rw [Hs.out.1]; have := Hs.out.2.1; simp only [inB, List.any_append, List.any_cons, List.any_nil] at this ⊢; rw [this]; simp [h2]⟩
          case measure => simp [intOf] <;> omega
      · go_wp2
        go_roundw
        case rel => exact ⟨k + 1, by omega, by go_num, by first | rfl | trivial, by rw [Hs.out.1]; have := Hs.out.2.1; simp only [inB, List.any_append, List.any_cons, List.any_nil] at this ⊢; rw [this]; simp [h1]⟩
        case measure => simp [intOf] <;> omega
    · have hkn : k = P.length := by omega
      subst hkn
      rw [List.take_length] at hno
      go_wp2
      go_ret
      exact ⟨by rw [hno]; rfl, rfl⟩

theorem infoCell : ∃ i, Try.prog.info? 85 = some i ∧ i.zero = some (.agg #[.int .i64 0, .int .i64 0]) ∧ i.size = 2 ∧ i.bytes = 16 := info_parts (by kernel_rfl)

set_option maxHeartbeats 4000000 in
set_option maxRecDepth 1000000 in
theorem refCells_any (l : List Pc) (v : Value) (w : World) (hr : Row w v l.length (flatK .i32 l)) (hz : i32s l) (hn : l.length ≤ 100000) :
    Calls Try.prog 56 #[v] w fun e w' => ∃ u, e = .returned u ∧ w'.ownsRow w.heap.size 85 2 u (raw l).length (flatK .i64 (raw l)) ∧ Below w.heap.size w w' := by
  obtain ⟨i0, hi, hz0, hz1, hz2⟩ := infoCell
  have Hr := Lib.hid hr
  have Hz := Lib.hid hz
  obtain ⟨o, cap, rfl, hcap, hmax, _⟩ := hr
  clear hz
  go_enter Try.func56, Try.ntmps56
  go_wp2_with fail
  go_loopw [3, 4] (fun u i wr => ∃ k : Nat, k ≤ l.length ∧ i = .int .i64 k ∧ wr.ownsRow w.heap.size 85 2 u (raw (l.take k)).length (flatK .i64 (raw (l.take k))) ∧ Below w.heap.size w wr)
    (fun _ i _ => l.length - (intOf i).toNat)
  case atStart => exact ⟨0, Nat.zero_le _, rfl, World.ownsRow_nil _ _ _ _, Below.refl _ _⟩
  case round =>
    obtain ⟨k, hk, rfl, hown, hbel⟩ := hrel
    by_cases hk2 : k < l.length
    · obtain ⟨b, off, cap', e, hlt⟩ := Hr.out.head (by omega)
      simp only [Value.slice.injEq, true_and] at e
      obtain ⟨rfl, rfl⟩ := e
      obtain ⟨_, c1, c2⟩ := Hr.out.pair hk2 rfl
      rw [← hbel.cell hlt] at c1 c2
      have hs := raw_take_succ l k hk2
      obtain ⟨q, hq⟩ : ∃ q, q = l.getD k (0, 0) := ⟨_, rfl⟩
      have hqb := Hz.out q (by rw [hq]; simp [List.getD, List.getElem?_eq_getElem hk2])
      rw [← hq] at c1 c2 hs
      have hle : (raw (l.take k)).length ≤ k := by have := raw_le (l.take k); simp at this; omega
      obtain ⟨lo, hi'⟩ := q
      simp only at c1 c2 hqb
      have hpr := pcOf_range (lo, hi')
      have hpe := pcOf_plu (lo, hi')
      have hwl : IntKind.i64.wrap lo = lo := iwrap (by omega)
      have hwh : IntKind.i64.wrap hi' = hi' := iwrap (by omega)
      obtain ⟨a, ha⟩ : ∃ a, a = plc lo := ⟨_, rfl⟩
      obtain ⟨c0, hc0⟩ : ∃ a, a = plu hi' := ⟨_, rfl⟩
      rw [hpe] at hs hpr
      simp only at hs hpr
      rw [← ha, ← hc0] at hs hpr
      have hskip : (hi' < lo ∨ hi' < 0 ∨ 1114111 < lo) → ¬ a < c0 + 1 := fun h => by have := raw_skip (x := (lo, hi')) h; rw [hpe] at this; rw [ha, hc0]; exact this
      have hwc : IntKind.i64.wrap (c0 + 1) = c0 + 1 := iwrap (by omega)
      have Hs := Lib.hid hs
      have Hk := Lib.hid hskip
      have Hp := Lib.hid (And.intro ha hc0)
      clear hs hq hpe hskip ha hc0
      obtain ⟨g1, g2⟩ := hqb
      by_cases h1 : hi' < lo
      · have hno := Hk.out (.inl h1)
        go_wp2_with fail
        go_quiet (fail)
        go_wp2_with fail
        go_roundw
        case rel => exact ⟨k + 1, by omega, by go_num, by rw [Hs.out, if_neg (by omega), List.append_nil]; exact (by first | exact hown | exact owns_drewN hown _), by repeat (first | exact Below.refl _ _ | assumption | (refine Below.drew ?_) | (refine below_drewN ?_ _) | (refine bel_new ?_ _) | (refine bel_then ?_ (by assumption)))⟩
        case measure => simp [intOf] <;> omega
      by_cases h2 : hi' < 0
      · have hno := Hk.out (.inr (.inl h2))
        go_wp2_with fail
        go_quiet (fail)
        go_wp2_with fail
        go_roundw
        case rel => exact ⟨k + 1, by omega, by go_num, by rw [Hs.out, if_neg (by omega), List.append_nil]; exact (by first | exact hown | exact owns_drewN hown _), by repeat (first | exact Below.refl _ _ | assumption | (refine Below.drew ?_) | (refine below_drewN ?_ _) | (refine bel_new ?_ _) | (refine bel_then ?_ (by assumption)))⟩
        case measure => simp [intOf] <;> omega
      by_cases h3 : 1114111 < lo
      · have hno := Hk.out (.inr (.inr h3))
        go_wp2_with fail
        go_quiet (fail)
        go_wp2_with fail
        go_roundw
        case rel => exact ⟨k + 1, by omega, by go_num, by rw [Hs.out, if_neg (by omega), List.append_nil]; exact (by first | exact hown | exact owns_drewN hown _), by repeat (first | exact Below.refl _ _ | assumption | (refine Below.drew ?_) | (refine below_drewN ?_ _) | (refine bel_new ?_ _) | (refine bel_then ?_ (by assumption)))⟩
        case measure => simp [intOf] <;> omega
      have d1 : decide (hi' < lo) = false := by simpa using h1
      have d2 : decide (hi' < 0) = false := by simpa using h2
      have d3 : decide (1114111 < lo) = false := by simpa using h3
      go_wp2_with fail
      go_quiet (fail)
      go_wp2_with fail
      go_region_held3 (fun w' => w'.cell? ⟨b, off + k * 2, none⟩ = some (.int .i32 lo) ∧ w'.cell? ⟨b, off + k * 2 + 1, none⟩ = some (.int .i32 hi'))
        (first | (simp [go_sem, *]; done) | go_keep)
        (first
        | (go_at_call_of 77 (Value.bool true); refine (refPlace_up _ _ (by omega)).mono ?_; rintro e w' ⟨rfl, rfl⟩; rw [← Hp.out.1])
        | (go_at_call 77; refine (refPlace_down _ _ (by omega) (by omega)).mono ?_; rintro e w' ⟨rfl, rfl⟩; rw [← Hp.out.2]))
      by_cases hac : a < c0 + 1
      · go_wp2_with (at_builtin; refine wpList_append_row _ rfl _ _ 76 rfl w.heap.size 85 i0 (.agg #[.int .i64 0, .int .i64 0]) 2 16 Try.underlying76 hi hz0 hz1 hz2 rfl (by decide) _ _ _ rfl ((owns_drewN hown _).alloc _) _ 1 [.int .i64 a, .int .i64 (c0 + 1)] rfl (rowNew2 _ _ _ _ wr.heap.size (by simp)) rfl (by simp [Value.oneCell']) (by unfold maxLen; omega) (by omega) (by have := hbel.size; simp; omega) ?_; intro v' w2 hown2 hgrow2)
        have hB2 : Below w.heap.size w w2 := bel_grown (by repeat (first | exact Below.refl _ _ | assumption | (refine Below.drew ?_) | (refine below_drewN ?_ _) | (refine bel_new ?_ _) | (refine bel_then ?_ (by assumption)))) hgrow2 (fun j hj => (hown.lt j hj).1)
        have H1 := Lib.hid (And.intro hown2 hB2)
        clear hown2 hgrow2 hB2 hown hbel
        go_wp2
        go_roundw
        case rel => exact ⟨k + 1, by omega, by go_num, by rw [Hs.out, if_pos hac, List.length_append, flatK_append]; exact H1.out.1, H1.out.2⟩
        case measure => simp [intOf] <;> omega
      · go_wp2_with fail
        go_roundw
        case rel => exact ⟨k + 1, by omega, by go_num, by rw [Hs.out, if_neg hac, List.append_nil]; exact (by first | exact hown | exact owns_drewN hown _ | exact (owns_drewN hown _).drew | exact owns_drewN (owns_drewN hown _) _), by repeat (first | exact Below.refl _ _ | assumption | (refine Below.drew ?_) | (refine below_drewN ?_ _) | (refine bel_new ?_ _) | (refine bel_then ?_ (by assumption)))⟩
        case measure => simp [intOf] <;> omega
    · have hkn : k = l.length := by omega
      subst hkn
      rw [List.take_length] at hown
      go_wp2_with fail
      go_ret
      exact ⟨_, rfl, hown, hbel⟩
end Go.Proofs.Ytjhfncmeiaogaaa
