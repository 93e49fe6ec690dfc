/- The document on sets (goboref3: Same, Norm, Not, May), beside the program of stage 11. -/
import Derived.Test.YtmgfpcblbbpahaaGreatRuneMath5
import Derived.Test.YtmgfpcblbbpahaaGreatStill
import Derived.Test.YtmgfpcblbbpahaaGreatReMark
import Derived.Laws.StructEq
import Derived.Deep.Cut
import Derived.Deep.RegionHeld3
import Derived.RegionTactic
import Derived.Deep.DeepCutAuto
set_option linter.unusedVariables false
set_option linter.unusedSimpArgs false
namespace Go.Proofs.YtmgfpcblbbpahaaGreat
open Go.RowKit Ru

end Go.Proofs.YtmgfpcblbbpahaaGreat

namespace Go.Proofs.YtmgfpcblbbpahaaGreat
open Go.RowKit Ru
theorem refAt_any (p : Int) (w : World) (hp : 0 ≤ p ∧ p ≤ 1112064) : Calls Tryz.prog 78 #[.int .i64 p] w fun e w' => e = .returned (.int .i32 (vlu p)) ∧ w = w' := by
  go_enter Tryz.func78, Tryz.ntmps78
  by_cases h1 : p < 55296
  · have h2 : decide (55296 ≤ p) = false := by simpa using h1
    go_wp2
    go_ret
    exact ⟨ret_int (by unfold vlu; simp [IntKind.wrap, IntKind.bits, IntKind.signed]; (repeat' split) <;> omega), rfl⟩
  · have h2 : decide (55296 ≤ p) = true := by simpa using h1
    go_wp2
    go_ret
    exact ⟨ret_int (by unfold vlu; simp [IntKind.wrap, IntKind.bits, IntKind.signed]; (repeat' split) <;> omega), rfl⟩

/-- the reference's place from above, one further -/
def plu (n : Int) : Int := if scal n = true then plc n else plc n - 1
theorem refPlace_up (r : Int) (w : World) (hr : -2147483648 ≤ r ∧ r ≤ 2147483647) : Calls Tryz.prog 99 #[.int .i64 r, .bool true] w fun e w' => e = .returned (.int .i64 (plc r)) ∧ w = w' := by
  go_enter Tryz.func99, Tryz.ntmps99
  by_cases h1 : r < 0
  · go_wp2
    go_ret
    exact ⟨ret_int (by unfold plc; (repeat' split) <;> omega), rfl⟩
  by_cases h2 : r < 55296
  · go_wp2
    go_ret
    exact ⟨ret_int (by unfold plc; (repeat' split) <;> omega), rfl⟩
  by_cases h3 : r ≤ 57343
  · go_wp2
    go_ret
    exact ⟨ret_int (by unfold plc; (repeat' split) <;> omega), rfl⟩
  by_cases h4 : 1114111 < r
  · go_wp2
    go_ret
    exact ⟨ret_int (by unfold plc; (repeat' split) <;> omega), rfl⟩
  · go_wp2
    go_ret
    exact ⟨ret_int (by unfold plc; (repeat' split) <;> omega), rfl⟩
theorem refPlace_down (r : Int) (w : World) (h0 : 0 ≤ r) (hr : -2147483648 ≤ r ∧ r ≤ 2147483647) : Calls Tryz.prog 99 #[.int .i64 r, .bool false] w fun e w' => e = .returned (.int .i64 (plu r)) ∧ w = w' := by
  have hb : plu r = if scal r = true then plc r else plc r - 1 := rfl
  have hs := scal_iff r
  go_enter Tryz.func99, Tryz.ntmps99
  have h1 : decide (r < 0) = false := by simpa using h0
  by_cases h2 : r < 55296
  · rw [if_pos (hs.2 ⟨by omega, by omega, by omega⟩)] at hb
    go_wp2
    go_ret
    exact ⟨ret_int (by (try rw [hb]); unfold plc; (repeat' split) <;> omega), rfl⟩
  by_cases h3 : r ≤ 57343
  · rw [if_neg (fun h => by have := hs.1 h; omega)] at hb
    go_wp2
    go_ret
    exact ⟨ret_int (by (try rw [hb]); unfold plc; (repeat' split) <;> omega), rfl⟩
  by_cases h4 : 1114111 < r
  · rw [if_neg (fun h => by have := hs.1 h; omega)] at hb
    go_wp2
    go_ret
    exact ⟨ret_int (by (try rw [hb]); unfold plc; (repeat' split) <;> omega), rfl⟩
  · rw [if_pos (hs.2 ⟨by omega, by omega, by omega⟩)] at hb
    go_wp2
    go_ret
    exact ⟨ret_int (by (try rw [hb]); unfold plc; (repeat' split) <;> omega), rfl⟩
theorem pcOf_plu (x : Pc) : pcOf x = (plc x.1, plu x.2 + 1) := by
  unfold pcOf plu
  split <;> simp <;> omega

namespace Ru
theorem raw_skip {x : Pc} (h : x.2 < x.1 ∨ x.2 < 0 ∨ 1114111 < x.1) : ¬ (pcOf x).1 < (pcOf x).2 := by
  unfold pcOf
  by_cases hs : scal x.2 = true
  · simp only [hs, if_true]; rw [scal_iff] at hs; unfold plc; repeat' split <;> omega
  · simp only [hs]; rw [scal_iff] at hs; simp only [Bool.false_eq_true, if_false]; unfold plc; repeat' split <;> omega
end Ru

set_option maxHeartbeats 1000000 in
set_option maxRecDepth 1000000 in
theorem refIn_any (P : List Pc) (v : Value) (p : Int) (w : World) (hr : Row w v P.length (flatK .i64 P)) (hn : P.length ≤ 10000000) :
    Calls Tryz.prog 77 #[v, .int .i64 p] w fun e w' => e = .returned (.bool (inB P p)) ∧ w' = w := by
  have Hr := Lib.hid hr
  obtain ⟨o, cap, rfl, hcap, hmax, _⟩ := hr
  go_enter Tryz.func77, Tryz.ntmps77
  go_wp2_with fail
  go_loopw [5] (fun i wr => ∃ k : Nat, k ≤ P.length ∧ i = .int .i64 k ∧ wr = w ∧ inB (P.take k) p = false)
    (fun i _ => P.length - (intOf i).toNat)
  case atStart => exact ⟨0, Nat.zero_le _, rfl, rfl, rfl⟩
  case round =>
    obtain ⟨k, hk, rfl, rfl, hno⟩ := hrel
    by_cases hk2 : k < P.length
    · obtain ⟨b, off, cap', e, hlt⟩ := Hr.out.head (by omega)
      simp only [Value.slice.injEq, true_and] at e
      obtain ⟨rfl, rfl⟩ := e
      obtain ⟨_, c1, c2⟩ := Hr.out.pair hk2 rfl
      have hs := take_one P (0, 0) k hk2
      obtain ⟨q, hq⟩ : ∃ q, q = P.getD k (0, 0) := ⟨_, rfl⟩
      rw [← hq] at c1 c2 hs
      have hm : q ∈ P := by rw [hq]; simp [List.getD, List.getElem?_eq_getElem hk2]
      obtain ⟨a, c⟩ := q
      simp only at c1 c2
      have Hs := Lib.hid (And.intro hs (And.intro hno hm))
      clear hs hq hno hm
      by_cases h1 : a ≤ p
      · by_cases h2 : p < c
        · go_wp2
          go_ret
          exact ⟨by rw [(inB_iff P p).2 ⟨_, Hs.out.2.2, h1, h2⟩]; rfl, by first | rfl | trivial⟩
        · go_wp2
          go_roundw
          case rel => exact ⟨k + 1, by omega, by go_num, by first | rfl | trivial, by rw [Hs.out.1]; have := Hs.out.2.1; simp only [inB, List.any_append, List.any_cons, List.any_nil] at this ⊢; rw [this]; simp [h2]⟩
          case measure => simp [intOf] <;> omega
      · go_wp2
        go_roundw
        case rel => exact ⟨k + 1, by omega, by go_num, by first | rfl | trivial, by rw [Hs.out.1]; have := Hs.out.2.1; simp only [inB, List.any_append, List.any_cons, List.any_nil] at this ⊢; rw [this]; simp [h1]⟩
        case measure => simp [intOf] <;> omega
    · have hkn : k = P.length := by omega
      subst hkn
      rw [List.take_length] at hno
      go_wp2
      go_ret
      exact ⟨by rw [hno]; rfl, rfl⟩

theorem infoCell : ∃ i, Tryz.prog.info? 140 = some i ∧ i.zero = some (.agg #[.int .i64 0, .int .i64 0]) ∧ i.size = 2 ∧ i.bytes = 16 := info_parts (by kernel_rfl)

set_option maxHeartbeats 4000000 in
set_option maxRecDepth 1000000 in
theorem refCells_any (l : List Pc) (v : Value) (w : World) (hr : Row w v l.length (flatK .i32 l)) (hz : i32s l) (hn : l.length ≤ 100000) :
    Calls Tryz.prog 74 #[v] w fun e w' => ∃ u, e = .returned u ∧ w'.ownsRow w.heap.size 140 2 u (raw l).length (flatK .i64 (raw l)) ∧ Below w.heap.size w w' := by
  obtain ⟨i0, hi, hz0, hz1, hz2⟩ := infoCell
  have Hr := Lib.hid hr
  have Hz := Lib.hid hz
  obtain ⟨o, cap, rfl, hcap, hmax, _⟩ := hr
  clear hz
  go_enter Tryz.func74, Tryz.ntmps74
  go_wp2_with fail
  go_loopw [3, 4] (fun u i wr => ∃ k : Nat, k ≤ l.length ∧ i = .int .i64 k ∧ wr.ownsRow w.heap.size 140 2 u (raw (l.take k)).length (flatK .i64 (raw (l.take k))) ∧ Below w.heap.size w wr)
    (fun _ i _ => l.length - (intOf i).toNat)
  case atStart => exact ⟨0, Nat.zero_le _, rfl, World.ownsRow_nil _ _ _ _, Below.refl _ _⟩
  case round =>
    obtain ⟨k, hk, rfl, hown, hbel⟩ := hrel
    by_cases hk2 : k < l.length
    · obtain ⟨b, off, cap', e, hlt⟩ := Hr.out.head (by omega)
      simp only [Value.slice.injEq, true_and] at e
      obtain ⟨rfl, rfl⟩ := e
      obtain ⟨_, c1, c2⟩ := Hr.out.pair hk2 rfl
      rw [← hbel.cell hlt] at c1 c2
      have hs := raw_take_succ l k hk2
      obtain ⟨q, hq⟩ : ∃ q, q = l.getD k (0, 0) := ⟨_, rfl⟩
      have hqb := Hz.out q (by rw [hq]; simp [List.getD, List.getElem?_eq_getElem hk2])
      rw [← hq] at c1 c2 hs
      have hle : (raw (l.take k)).length ≤ k := by have := raw_le (l.take k); simp at this; omega
      obtain ⟨lo, hi'⟩ := q
      simp only at c1 c2 hqb
      have hpr := pcOf_range (lo, hi')
      have hpe := pcOf_plu (lo, hi')
      have hwl : IntKind.i64.wrap lo = lo := iwrap (by omega)
      have hwh : IntKind.i64.wrap hi' = hi' := iwrap (by omega)
      obtain ⟨a, ha⟩ : ∃ a, a = plc lo := ⟨_, rfl⟩
      obtain ⟨c0, hc0⟩ : ∃ a, a = plu hi' := ⟨_, rfl⟩
      rw [hpe] at hs hpr
      simp only at hs hpr
      rw [← ha, ← hc0] at hs hpr
      have hskip : (hi' < lo ∨ hi' < 0 ∨ 1114111 < lo) → ¬ a < c0 + 1 := fun h => by have := raw_skip (x := (lo, hi')) h; rw [hpe] at this; rw [ha, hc0]; exact this
      have hwc : IntKind.i64.wrap (c0 + 1) = c0 + 1 := iwrap (by omega)
      have Hs := Lib.hid hs
      have Hk := Lib.hid hskip
      have Hp := Lib.hid (And.intro ha hc0)
      clear hs hq hpe hskip ha hc0
      obtain ⟨g1, g2⟩ := hqb
      by_cases h1 : hi' < lo
      · have hno := Hk.out (.inl h1)
        go_wp2_with fail
        go_quiet (fail)
        go_wp2_with fail
        go_roundw
        case rel => exact ⟨k + 1, by omega, by go_num, by rw [Hs.out, if_neg (by omega), List.append_nil]; exact (by first | exact hown | exact owns_drewN hown _), by repeat (first | exact Below.refl _ _ | assumption | (refine Below.drew ?_) | (refine below_drewN ?_ _) | (refine bel_new ?_ _) | (refine bel_then ?_ (by assumption)))⟩
        case measure => simp [intOf] <;> omega
      by_cases h2 : hi' < 0
      · have hno := Hk.out (.inr (.inl h2))
        go_wp2_with fail
        go_quiet (fail)
        go_wp2_with fail
        go_roundw
        case rel => exact ⟨k + 1, by omega, by go_num, by rw [Hs.out, if_neg (by omega), List.append_nil]; exact (by first | exact hown | exact owns_drewN hown _), by repeat (first | exact Below.refl _ _ | assumption | (refine Below.drew ?_) | (refine below_drewN ?_ _) | (refine bel_new ?_ _) | (refine bel_then ?_ (by assumption)))⟩
        case measure => simp [intOf] <;> omega
      by_cases h3 : 1114111 < lo
      · have hno := Hk.out (.inr (.inr h3))
        go_wp2_with fail
        go_quiet (fail)
        go_wp2_with fail
        go_roundw
        case rel => exact ⟨k + 1, by omega, by go_num, by rw [Hs.out, if_neg (by omega), List.append_nil]; exact (by first | exact hown | exact owns_drewN hown _), by repeat (first | exact Below.refl _ _ | assumption | (refine Below.drew ?_) | (refine below_drewN ?_ _) | (refine bel_new ?_ _) | (refine bel_then ?_ (by assumption)))⟩
        case measure => simp [intOf] <;> omega
      have d1 : decide (hi' < lo) = false := by simpa using h1
      have d2 : decide (hi' < 0) = false := by simpa using h2
      have d3 : decide (1114111 < lo) = false := by simpa using h3
      go_wp2_with fail
      go_quiet (fail)
      go_wp2_with fail
      go_region_held3 (fun w' => w'.cell? ⟨b, off + k * 2, none⟩ = some (.int .i32 lo) ∧ w'.cell? ⟨b, off + k * 2 + 1, none⟩ = some (.int .i32 hi'))
        (first | (simp [go_sem, *]; done) | go_keep)
        (first
        | (go_at_call_of 99 (Value.bool true); refine (refPlace_up _ _ (by omega)).mono ?_; rintro e w' ⟨rfl, rfl⟩; rw [← Hp.out.1])
        | (go_at_call 99; refine (refPlace_down _ _ (by omega) (by omega)).mono ?_; rintro e w' ⟨rfl, rfl⟩; rw [← Hp.out.2]))
      by_cases hac : a < c0 + 1
      · go_wp2_with (at_builtin; refine wpList_append_row _ rfl _ _ 112 rfl w.heap.size 140 i0 (.agg #[.int .i64 0, .int .i64 0]) 2 16 Tryz.underlying112 hi hz0 hz1 hz2 rfl (by decide) _ _ _ rfl ((owns_drewN hown _).alloc _) _ 1 [.int .i64 a, .int .i64 (c0 + 1)] rfl (rowNew2 _ _ _ _ wr.heap.size (by simp)) rfl (by simp [Value.oneCell']) (by unfold maxLen; omega) (by omega) (by have := hbel.size; simp; omega) ?_; intro v' w2 hown2 hgrow2)
        have hB2 : Below w.heap.size w w2 := bel_grown (by repeat (first | exact Below.refl _ _ | assumption | (refine Below.drew ?_) | (refine below_drewN ?_ _) | (refine bel_new ?_ _) | (refine bel_then ?_ (by assumption)))) hgrow2 (fun j hj => (hown.lt j hj).1)
        have H1 := Lib.hid (And.intro hown2 hB2)
        clear hown2 hgrow2 hB2 hown hbel
        go_wp2
        go_roundw
        case rel => exact ⟨k + 1, by omega, by go_num, by rw [Hs.out, if_pos hac, List.length_append, flatK_append]; exact H1.out.1, H1.out.2⟩
        case measure => simp [intOf] <;> omega
      · go_wp2_with fail
        go_roundw
        case rel => exact ⟨k + 1, by omega, by go_num, by rw [Hs.out, if_neg hac, List.append_nil]; exact (by first | exact hown | exact owns_drewN hown _ | exact (owns_drewN hown _).drew | exact owns_drewN (owns_drewN hown _) _), by repeat (first | exact Below.refl _ _ | assumption | (refine Below.drew ?_) | (refine below_drewN ?_ _) | (refine bel_new ?_ _) | (refine bel_then ?_ (by assumption)))⟩
        case measure => simp [intOf] <;> omega
    · have hkn : k = l.length := by omega
      subst hkn
      rw [List.take_length] at hown
      go_wp2_with fail
      go_ret
      exact ⟨_, rfl, hown, hbel⟩
end Go.Proofs.YtmgfpcblbbpahaaGreat

namespace Go.Proofs.YtmgfpcblbbpahaaGreat
open Go.RowKit Ru

theorem infoInt3 : ∃ i, Tryz.prog.info? 3 = some i ∧ i.zero = some (.int .i64 0) ∧ i.size = 1 ∧ i.bytes = 8 := info_parts (by kernel_rfl)
theorem elemInts3 : Tryz.prog.elem 23 = 3 := by kernel_rfl
theorem undInts3 : Tryz.prog.underlying 23 = some (.slice (Tryz.prog.elem 23)) := by rw [elemInts3]; exact Tryz.underlying23
/-- 'l[:k]' and 'l[k:]' of ints as facts for a walk -/
theorem cutI_h (o : Option Addr) (cap n : Nat) (cs : List Value) (hcs : cs.length = n) (k : Nat) (hk : k ≤ n) (hc : n ≤ cap) : ∃ o1 c1,
    (∀ w' : World, (Instr.sliceAt 23 (.slice o n cap) none (some (.int .i64 k)) none).run Tryz.prog w' = .ok (.slice o1 k c1) w') ∧
      ∀ w', Row w' (.slice o n cap) n cs → Row w' (.slice o1 k c1) k (cs.take k) := by
  obtain ⟨i0, hi, hz0, hz1, hz2⟩ := infoInt3
  have e1 : ((k : Int)).toNat = k := by simp
  refine ⟨(if cap = 0 then o else o.map (·.add (0 * 1))), cap - 0, fun w' => ?_, fun w' hr => ?_⟩
  · have hsz : (sizeOf (Tryz.prog.elem 23)).run Tryz.prog w' = .ok 1 w' := by
      rw [elemInts3]; simp [sizeOf, run_typeInfo _ hi, hz1, go_sem]
    rw [run_sliceAt_slice _ _ _ _ _ _ undInts3, run_slice_h w' 23 o n cap undInts3 .i64 (k : Int) (by omega) (by omega), hsz]
    rw [Result.andThen_ok, e1]
    unfold Go.sliced
    rw [Nat.sub_zero k]
  · have h := hr.sliced hcs (Nat.zero_le k) hk
    unfold Go.sliced at h
    rw [Nat.sub_zero k, List.drop_zero] at h
    exact h
theorem cutI_l (o : Option Addr) (cap n : Nat) (cs : List Value) (hcs : cs.length = n) (k : Nat) (hk : k ≤ n) (hc : n ≤ cap) : ∃ o1 c1,
    (∀ w' : World, (Instr.sliceAt 23 (.slice o n cap) (some (.int .i64 k)) none none).run Tryz.prog w' = .ok (.slice o1 (n - k) c1) w') ∧
      ∀ w', Row w' (.slice o n cap) n cs → Row w' (.slice o1 (n - k) c1) (n - k) (cs.drop k) := by
  obtain ⟨i0, hi, hz0, hz1, hz2⟩ := infoInt3
  have e1 : ((k : Int)).toNat = k := by simp
  refine ⟨(if cap = k then o else o.map (·.add (k * 1))), cap - k, fun w' => ?_, fun w' hr => ?_⟩
  · have hsz : (sizeOf (Tryz.prog.elem 23)).run Tryz.prog w' = .ok 1 w' := by
      rw [elemInts3]; simp [sizeOf, run_typeInfo _ hi, hz1, go_sem]
    rw [run_sliceAt_slice _ _ _ _ _ _ undInts3, run_slice_l w' 23 o n cap undInts3 .i64 (k : Int) (by omega) (by omega), hsz]
    rw [Result.andThen_ok, e1]
    unfold Go.sliced
    rfl
  · have h := hr.sliced hcs hk (Nat.le_refl n)
    unfold Go.sliced at h
    rw [List.take_of_length_le (by simp; omega)] at h
    exact h
theorem rowOne (w : World) (u : Value) (e : TypeId) (B : Nat) (hB : w.heap.size = B) : Row (w.alloc (.cells #[u] e)) (.slice (some ⟨B, 0, none⟩) 1 1) 1 [u] := by
  subst hB
  refine ⟨_, _, rfl, Nat.le_refl _, by decide, .inr ⟨w.heap.size, 0, rfl, by simp, fun j x hx => ?_⟩⟩
  rw [Nat.zero_add, World.cell?_alloc_mark]
  simpa using hx
theorem rowOneD (w : World) (u : Value) (e : TypeId) (B : Nat) (hB : w.heap.size = B) : Row (w.alloc (.cells #[u] e)).drew (.slice (some ⟨B, 0, none⟩) 1 1) 1 [u] := by
  subst hB
  refine ⟨_, _, rfl, Nat.le_refl _, by decide, .inr ⟨w.heap.size, 0, rfl, by simp, fun j x hx => ?_⟩⟩
  rw [Nat.zero_add, World.cell?_drew, World.cell?_alloc_mark]
  simpa using hx

namespace Ru
theorem ends_get : ∀ (P : List Pc) (j : Nat), (ends P).getD (2 * j) 0 = (P.getD j (0, 0)).1 ∧ (ends P).getD (2 * j + 1) 0 = (P.getD j (0, 0)).2
  | [], j => by simp [ends]
  | q :: P, 0 => by simp [ends]
  | q :: P, j + 1 => by
    have h := ends_get P j
    have e1 : 2 * (j + 1) = 2 * j + 1 + 1 := by omega
    have e2 : 2 * (j + 1) + 1 = 2 * j + 1 + 1 + 1 := by omega
    rw [e1]
    simpa [ends] using h
theorem ends_len : ∀ P : List Pc, (ends P).length = 2 * P.length
  | [] => rfl
  | q :: P => by simp only [ends, List.length_cons, ends_len P]; omega
theorem srtD_succ (l : List Int) (k : Nat) (h : k < l.length) : srtD (l.take (k + 1)) = insD (l.getD k 0) (srtD (l.take k)) := by
  have e : l.take (k + 1) = l.take k ++ [l.getD k 0] := by
    rw [List.take_succ_eq_append_getElem h]; simp [List.getD, List.getElem?_eq_getElem h]
  rw [e]; unfold srtD; rw [List.foldl_append]; rfl
theorem insD_len (x : Int) : ∀ l, (insD x l).length ≤ l.length + 1
  | [] => by simp [insD]
  | y :: l => by
    have := insD_len x l
    unfold insD
    split
    · simp
    · split
      · simp
      · simp only [List.length_cons]; omega
theorem srtD_len : ∀ (l s : List Int), (l.foldl (fun s x => insD x s) s).length ≤ l.length + s.length
  | [], s => by simp
  | x :: l, s => by
    have h1 := srtD_len l (insD x s)
    have h2 := insD_len x s
    simp only [List.foldl_cons, List.length_cons]; omega
end Ru

set_option maxHeartbeats 4000000 in
set_option maxRecDepth 1000000 in
theorem refCuts_any (P : List Pc) (v : Value) (w : World) (hr : Row w v P.length (flatK .i64 P)) (hn : P.length ≤ 100000) :
    Calls Tryz.prog 76 #[v] w fun e w' => ∃ u, e = .returned u ∧ w'.ownsRow w.heap.size 3 1 u (srtD (ends P)).length ((srtD (ends P)).map (Value.int .i64)) ∧ Below w.heap.size w w' := by
  obtain ⟨i0, hi, hz0, hz1, hz2⟩ := infoInt3
  have Hr := Lib.hid hr
  obtain ⟨o, cap, rfl, hcap, hmax, _⟩ := hr
  have hel := ends_len P
  go_enter Tryz.func76, Tryz.ntmps76
  go_wp2_with fail
  go_loopw [3, 4] (fun u i wr => ∃ k : Nat, k ≤ 2 * P.length ∧ i = .int .i64 k ∧ wr.ownsRow w.heap.size 3 1 u (srtD ((ends P).take k)).length ((srtD ((ends P).take k)).map (Value.int .i64)) ∧ Below w.heap.size w wr)
    (fun _ i _ => 2 * P.length - (intOf i).toNat)
  case atStart => exact ⟨0, Nat.zero_le _, rfl, World.ownsRow_nil _ _ _ _, Below.refl _ _⟩
  case round =>
    obtain ⟨k, hk, rfl, hown, hbel⟩ := hrel
    have hw2 : IntKind.i64.wrap (2 * (P.length : Int)) = 2 * (P.length : Int) := iwrap (by omega)
    by_cases hk2 : k < 2 * P.length
    · have hk3 : (k : Int) < 2 * (P.length : Int) := by omega
      have hs := srtD_succ (ends P) k (by omega)
      obtain ⟨c, hc⟩ : ∃ c, c = (ends P).getD k 0 := ⟨_, rfl⟩
      obtain ⟨S, hS⟩ : ∃ S, S = srtD ((ends P).take k) := ⟨_, rfl⟩
      have hSl : S.length ≤ k := by
        have := srtD_len ((ends P).take k) []
        rw [List.length_take] at this
        rw [hS]; unfold srtD; simp only [List.length_nil] at this; omega
      rw [← hc, ← hS] at hs
      rw [← hS] at hown
      obtain ⟨j, x, y, hj, hd, hm, hcx, hjx, hjy⟩ : ∃ j : Nat, ∃ x y : Int, j < P.length ∧ (k : Int).tdiv 2 = (j : Int) ∧ ((k : Int).tmod 2 = 0 ∧ c = x ∨ (k : Int).tmod 2 = 1 ∧ c = y) ∧ True ∧ (P.getD j (0, 0)).1 = x ∧ (P.getD j (0, 0)).2 = y := by
        refine ⟨k / 2, _, _, by omega, by rw [Int.tdiv_eq_ediv_of_nonneg (by omega)]; omega, ?_, trivial, rfl, rfl⟩
        have h := ends_get P (k / 2)
        rcases Nat.mod_two_eq_zero_or_one k with h2 | h2
        · left
          refine ⟨by rw [Int.tmod_eq_emod_of_nonneg (by omega)]; omega, ?_⟩
          rw [hc, ← h.1]; congr 1; omega
        · right
          refine ⟨by rw [Int.tmod_eq_emod_of_nonneg (by omega)]; omega, ?_⟩
          rw [hc, ← h.2]; congr 1; omega
      obtain ⟨b, off, cap', e, hlt⟩ := Hr.out.head (by omega)
      simp only [Value.slice.injEq, true_and] at e
      obtain ⟨rfl, rfl⟩ := e
      obtain ⟨_, c1, c2⟩ := Hr.out.pair hj rfl
      rw [← hbel.cell hlt] at c1 c2
      rw [hjx] at c1
      rw [hjy] at c2
      have Hs := Lib.hid (And.intro hs (And.intro hc hS))
      clear hs hc hS hcx hjx hjy
      obtain ⟨oS, cS, rfl⟩ := owns_slice hown
      have hcapS : S.length ≤ cS := by
        obtain ⟨_, _, e, h, _⟩ := Row.owned hown
        simp only [Value.slice.injEq] at e; omega
      have Hd := Lib.hid hbel
      rcases hm with ⟨hm, rfl⟩ | ⟨hm, rfl⟩
      all_goals
        obtain ⟨wo, rfl⟩ : ∃ wo : World, wo = wr := ⟨_, rfl⟩
        go_wp2_with fail
        go_loopw [6] (fun i wi => ∃ m : Nat, m ≤ S.length ∧ i = .int .i64 m ∧ wi = wo ∧ ∀ j, j < m → S.getD j 0 < c) (fun i _ => S.length - (intOf i).toNat)
        case atStart => exact ⟨0, Nat.zero_le _, rfl, rfl, fun j hj => absurd hj (by omega)⟩
        case round =>
          obtain ⟨m, hml, rfl, rfl, hbelow⟩ := hrel
          by_cases hms : m < S.length
          · obtain ⟨g, cap2, e⟩ := Joins.ownsRow_form hown (by omega)
            simp only [Value.slice.injEq, true_and] at e
            obtain ⟨rfl, rfl⟩ := e
            have k1 := cell_add (hown.cells rfl) m (.int .i64 (S.getD m 0)) (by simp [List.getD, List.getElem?_eq_getElem hms])
            obtain ⟨z, hz⟩ : ∃ z, z = S.getD m 0 := ⟨_, rfl⟩
            rw [← hz] at k1
            have Hz := Lib.hid (And.intro hz hbelow)
            clear hz hbelow
            by_cases hlt2 : z < c
            · go_wp2_with fail
              go_roundw
              case rel => exact ⟨m + 1, by omega, by go_num, by first | rfl | trivial, fun j hj => by
                rcases Nat.lt_or_ge j m with h | h
                · exact Hz.out.2 j h
                · have : j = m := by omega
                  subst this; rw [← Hz.out.1]; exact hlt2⟩
              case measure => simp [intOf] <;> omega
            · by_cases heq : z = c
              · have hins : srtD ((ends P).take (k + 1)) = S := by
                  rw [Hs.out.1, insD_at S c m hml (fun j hj => Hz.out.2 j hj) (fun _ => by rw [← Hz.out.1]; omega), if_pos ⟨hms, by rw [← Hz.out.1]; exact heq⟩]
                have Hi := Lib.hid hins
                clear hins
                go_wp2_with fail
                go_roundw
                case rel => exact ⟨k + 1, by omega, by go_num, by rw [Hi.out]; exact hown, hbel⟩
                case measure => simp [intOf] <;> omega
              · have hins : srtD ((ends P).take (k + 1)) = S.take m ++ c :: S.drop m := by
                  rw [Hs.out.1, insD_at S c m hml (fun j hj => Hz.out.2 j hj) (fun _ => by rw [← Hz.out.1]; omega), if_neg (fun h => heq (by rw [Hz.out.1]; exact h.2))]
                obtain ⟨o5, c5, hst, hsl⟩ := cutI_h (some ⟨g, 0, none⟩) cS S.length (S.map (Value.int .i64)) (by simp) m hml hcapS
                obtain ⟨o6, c6, hst6, hsl6⟩ := cutI_l (some ⟨g, 0, none⟩) cS S.length (S.map (Value.int .i64)) (by simp) m hml hcapS
                have Hi := Lib.hid (And.intro hins (And.intro hsl hsl6))
                clear hins hsl hsl6
                have hBk := hbel.size
                have hown9 := World.ownsRow_lit (e := 3) (base := wr.heap.size) (size := 1) wr #[] 0 (Nat.le_refl _) (by decide) rfl
                go_wp2_with (at_builtin; refine wpList_append_row _ rfl _ _ 23 rfl wr.heap.size 3 i0 (.int .i64 0) 1 8 Tryz.underlying23 hi hz0 hz1 hz2 rfl (by decide) _ 0 [] rfl hown9 _ m ((S.map (Value.int .i64)).take m) rfl (Hi.out.2.1 _ (Row.owned (hown.alloc _))) (by simp; omega) (fun u hu => ints_one _ _ u (List.mem_of_mem_take hu)) (by unfold maxLen; omega) (by omega) (by simp) ?_; intro v5 w5 hown5 hg5)
                have hB5 : Below wr.heap.size wr w5 := ((Below.refl wr.heap.size wr).alloc (Nat.le_refl _) _).grown hg5 (by simp) (fun j hj => (hown9.lt j hj).1)
                rw [Nat.zero_add, List.nil_append] at hown5
                have hBk5 := hB5.size
                clear hown9 hg5
                go_region_held3 (fun w' => True) (first | trivial | go_keep)
                  (first
                  | (refine step_append_row _ (by rfl) _ _ 23 (by rfl) wr.heap.size 3 i0 _ 1 8 Tryz.underlying23 hi hz0 hz1 hz2 rfl (by omega) v5 m ((S.map (Value.int .i64)).take m) (by rfl) (by first | exact (hown5.alloc _).drew | exact hown5.alloc _) _ 1 [.int .i64 c] (by rfl) (by first | exact rowOneD _ _ _ w5.heap.size rfl | exact rowOne _ _ _ w5.heap.size rfl) (by rfl) (by simp [Value.oneCell']) (by unfold maxLen; omega) (by omega) (by simp; omega) ?_; intro v6 w6 hown6 hg6; have hB6 : Below wr.heap.size wr w6 := bel_grown (by repeat (first | exact Below.refl _ _ | assumption | (refine Below.drew ?_) | (refine below_drewN ?_ _) | (refine bel_new ?_ _) | (refine bel_then ?_ (by assumption)))) hg6 (fun j hj => (hown5.lt j hj).1); have hS6 := owns_below hown hB6)
                  | (refine step_append_row _ (by rfl) _ _ 23 (by rfl) wr.heap.size 3 i0 _ 1 8 Tryz.underlying23 hi hz0 hz1 hz2 rfl (by omega) v6 (m + 1) ((S.map (Value.int .i64)).take m ++ [.int .i64 c]) (by rfl) (by first | exact hown6 | exact hown6.drew) _ (S.length - m) ((S.map (Value.int .i64)).drop m) (by rfl) (Hi.out.2.2 _ (Row.owned (by first | exact hS6 | exact hS6.drew))) (by simp) (fun u hu => ints_one _ _ u (List.mem_of_mem_drop hu)) (by unfold maxLen; omega) (by omega) (by have := hB6.size; first | omega | (simp; omega)) ?_; intro v7 w7 hown7 hg7; have hB7 : Below wr.heap.size wr w7 := bel_grown (by repeat (first | exact Below.refl _ _ | assumption | (refine Below.drew ?_) | (refine below_drewN ?_ _) | (refine bel_new ?_ _) | (refine bel_then ?_ (by assumption)))) hg7 (fun j hj => (hown6.lt j hj).1)))
                have h8 : w7.ownsRow w.heap.size 3 1 v7 (srtD ((ends P).take (k + 1))).length ((srtD ((ends P).take (k + 1))).map (Value.int .i64)) := by
                  have h := Joins.ownsRow_le hown7 hBk
                  have e1 : (S.take m ++ c :: S.drop m).length = m + 1 + (S.length - m) := by simp; omega
                  have e2 : (S.take m ++ c :: S.drop m).map (Value.int .i64) = (S.map (Value.int .i64)).take m ++ [.int .i64 c] ++ (S.map (Value.int .i64)).drop m := by simp [List.map_take, List.map_drop]
                  rw [Hi.out.1, e1, e2]; exact h
                have H8 := Lib.hid (And.intro h8 (bel_then hbel hB7))
                clear h8 hown7 hown6 hown5 hg6 hg7 hB5 hB6 hB7 hS6
                go_wp2_with fail
                go_roundw
                case rel => exact ⟨k + 1, by omega, by go_num, H8.out.1, H8.out.2⟩
                case measure => simp [intOf] <;> omega
          · have hmS : m = S.length := by omega
            have hins : srtD ((ends P).take (k + 1)) = S.take m ++ c :: S.drop m := by
              rw [Hs.out.1, insD_at S c m hml (fun j hj => hbelow j hj) (fun h => absurd h hms), if_neg (fun h => hms h.1)]
            obtain ⟨o5, c5, hst, hsl⟩ := cutI_h oS cS S.length (S.map (Value.int .i64)) (by simp) m hml hcapS
            obtain ⟨o6, c6, hst6, hsl6⟩ := cutI_l oS cS S.length (S.map (Value.int .i64)) (by simp) m hml hcapS
            have Hi := Lib.hid (And.intro hins (And.intro hsl hsl6))
            clear hins hsl hsl6 hmS
            have hBk := hbel.size
            have hown9 := World.ownsRow_lit (e := 3) (base := wr.heap.size) (size := 1) wr #[] 0 (Nat.le_refl _) (by decide) rfl
            go_wp2_with (at_builtin; refine wpList_append_row _ rfl _ _ 23 rfl wr.heap.size 3 i0 (.int .i64 0) 1 8 Tryz.underlying23 hi hz0 hz1 hz2 rfl (by decide) _ 0 [] rfl hown9 _ m ((S.map (Value.int .i64)).take m) rfl (Hi.out.2.1 _ (Row.owned (hown.alloc _))) (by simp; omega) (fun u hu => ints_one _ _ u (List.mem_of_mem_take hu)) (by unfold maxLen; omega) (by omega) (by simp) ?_; intro v5 w5 hown5 hg5)
            have hB5 : Below wr.heap.size wr w5 := ((Below.refl wr.heap.size wr).alloc (Nat.le_refl _) _).grown hg5 (by simp) (fun j hj => (hown9.lt j hj).1)
            rw [Nat.zero_add, List.nil_append] at hown5
            have hBk5 := hB5.size
            clear hown9 hg5
            go_region_held3 (fun w' => True) (first | trivial | go_keep)
              (first
              | (refine step_append_row _ (by rfl) _ _ 23 (by rfl) wr.heap.size 3 i0 _ 1 8 Tryz.underlying23 hi hz0 hz1 hz2 rfl (by omega) v5 m ((S.map (Value.int .i64)).take m) (by rfl) (by first | exact (hown5.alloc _).drew | exact hown5.alloc _) _ 1 [.int .i64 c] (by rfl) (by first | exact rowOneD _ _ _ w5.heap.size rfl | exact rowOne _ _ _ w5.heap.size rfl) (by rfl) (by simp [Value.oneCell']) (by unfold maxLen; omega) (by omega) (by simp; omega) ?_; intro v6 w6 hown6 hg6; have hB6 : Below wr.heap.size wr w6 := bel_grown (by repeat (first | exact Below.refl _ _ | assumption | (refine Below.drew ?_) | (refine below_drewN ?_ _) | (refine bel_new ?_ _) | (refine bel_then ?_ (by assumption)))) hg6 (fun j hj => (hown5.lt j hj).1); have hS6 := owns_below hown hB6)
              | (refine step_append_row _ (by rfl) _ _ 23 (by rfl) wr.heap.size 3 i0 _ 1 8 Tryz.underlying23 hi hz0 hz1 hz2 rfl (by omega) v6 (m + 1) ((S.map (Value.int .i64)).take m ++ [.int .i64 c]) (by rfl) (by first | exact hown6 | exact hown6.drew) _ (S.length - m) ((S.map (Value.int .i64)).drop m) (by rfl) (Hi.out.2.2 _ (Row.owned (by first | exact hS6 | exact hS6.drew))) (by simp) (fun u hu => ints_one _ _ u (List.mem_of_mem_drop hu)) (by unfold maxLen; omega) (by omega) (by have := hB6.size; first | omega | (simp; omega)) ?_; intro v7 w7 hown7 hg7; have hB7 : Below wr.heap.size wr w7 := bel_grown (by repeat (first | exact Below.refl _ _ | assumption | (refine Below.drew ?_) | (refine below_drewN ?_ _) | (refine bel_new ?_ _) | (refine bel_then ?_ (by assumption)))) hg7 (fun j hj => (hown6.lt j hj).1)))
            have h8 : w7.ownsRow w.heap.size 3 1 v7 (srtD ((ends P).take (k + 1))).length ((srtD ((ends P).take (k + 1))).map (Value.int .i64)) := by
              have h := Joins.ownsRow_le hown7 hBk
              have e1 : (S.take m ++ c :: S.drop m).length = m + 1 + (S.length - m) := by simp; omega
              have e2 : (S.take m ++ c :: S.drop m).map (Value.int .i64) = (S.map (Value.int .i64)).take m ++ [.int .i64 c] ++ (S.map (Value.int .i64)).drop m := by simp [List.map_take, List.map_drop]
              rw [Hi.out.1, e1, e2]; exact h
            have H8 := Lib.hid (And.intro h8 (bel_then hbel hB7))
            clear h8 hown7 hown6 hown5 hg6 hg7 hB5 hB6 hB7 hS6
            go_wp2_with fail
            go_roundw
            case rel => exact ⟨k + 1, by omega, by go_num, H8.out.1, H8.out.2⟩
            case measure => simp [intOf] <;> omega
    · have hkn : k = 2 * P.length := by omega
      subst hkn
      rw [List.take_of_length_le (by omega)] at hown
      have hd2 : decide (2 * (P.length : Int) < 2 * (P.length : Int)) = false := by simp
      go_wp2_with fail
      go_ret
      exact ⟨_, rfl, hown, hbel⟩
end Go.Proofs.YtmgfpcblbbpahaaGreat

namespace Go.Proofs.YtmgfpcblbbpahaaGreat
open Go.RowKit Ru

namespace Ru
/-- the ends of what is picked from -/
theorem cut2_step (a b : List Pc) (ha : ∀ q ∈ a, 0 ≤ q.1 ∧ q.1 < q.2 ∧ q.2 ≤ 1112064) (hb : ∀ q ∈ b, 0 ≤ q.1 ∧ q.1 < q.2 ∧ q.2 ≤ 1112064) (k : Nat) (hk : k + 1 < (cut2 a b).length) :
    0 ≤ (cut2 a b).getD k 0 ∧ (cut2 a b).getD k 0 < (cut2 a b).getD (k + 1) 0 ∧ (cut2 a b).getD (k + 1) 0 ≤ 1112064 := by
  obtain ⟨h1, _, h3, h4, h5⟩ := cut2_facts a b ha hb
  have hl := h1.get k (k + 1) (by omega) hk
  refine ⟨?_, hl, ?_⟩
  · by_cases e : k = 0
    · rw [e, h4]; omega
    · have := h1.get 0 k (by omega) (by omega); omega
  · by_cases e : k + 1 = (cut2 a b).length - 1
    · rw [e, h5]; omega
    · have := h1.get (k + 1) ((cut2 a b).length - 1) (by omega) (by omega); omega
theorem rngs_app (p q : List Pc) : rngs (p ++ q) = rngs p ++ rngs q := by simp [rngs]
theorem cut2_len (a b : List Pc) : (cut2 a b).length ≤ 2 * (a.length + b.length + 1) := by
  have h := srtD_len (ends ((0, 1112064) :: (a ++ b))) []
  have h2 := ends_len ((0, 1112064) :: (a ++ b))
  unfold cut2 srtD
  simp only [List.length_cons, List.length_append, List.length_nil] at h h2
  omega
theorem runsT_len (f : Int → Bool) (c : List Int) : ∀ i, (runsT f c i).length ≤ i
  | 0 => by simp [runsT]
  | i + 1 => by
    have h := runsT_len f c i
    unfold runsT
    split
    · split
      · unfold ext
        split
        · omega
        · rename_i q hq
          have : (runsT f c i) ≠ [] := fun e => by rw [e] at hq; simp at hq
          have := List.length_pos_iff.2 this
          simp; omega
      · simp; omega
    · omega
end Ru

set_option maxHeartbeats 8000000 in
set_option maxRecDepth 1000000 in
theorem refPick_any (A B : List Pc) (va vb : Value) (how : Int) (g : Bool → Bool → Bool) (w : World) (ha : Row w va A.length (flatK .i64 A)) (hb : Row w vb B.length (flatK .i64 B))
    (okA : ∀ q ∈ A, 0 ≤ q.1 ∧ q.1 < q.2 ∧ q.2 ≤ 1112064) (okB : ∀ q ∈ B, 0 ≤ q.1 ∧ q.1 < q.2 ∧ q.2 ≤ 1112064) (nA : A.length ≤ 10000) (nB : B.length ≤ 10000)
    (hg : (how = 1 ∧ g = fun x _ => x) ∨ (how = 3 ∧ g = fun x y => x || y) ∨ (how = 4 ∧ g = fun x y => x && y) ∨ (how = 5 ∧ g = fun x _ => !x)) :
    Calls Tryz.prog 100 #[va, vb, .int .i64 how] w fun e w' => ∃ u, e = .returned u ∧
      w'.ownsRow w.heap.size 54 2 u (pickP (fun x => g (inB A x) (inB B x)) A B).length (flatK .i32 (rngs (pickP (fun x => g (inB A x) (inB B x)) A B))) ∧ Below w.heap.size w w' := by
  obtain ⟨i0, hi, hz0, hz1, hz2⟩ := infoCell
  obtain ⟨i1, ki, kz0, kz1, kz2⟩ := infoRange
  have Ha := Lib.hid ha
  have Hb := Lib.hid hb
  have Hg := Lib.hid hg
  have Hok := Lib.hid (And.intro okA okB)
  clear ha hb hg okA okB
  have hown0 := World.ownsRow_lit (e := 140) (base := w.heap.size) (size := 2) w #[.int .i64 0, .int .i64 1112064] 1 (Nat.le_refl _) (by decide) rfl
  go_enter Tryz.func100, Tryz.ntmps100
  go_upto_region 2 with (first
    | (at_builtin; refine wpList_append_row _ (by rfl) _ _ 112 rfl w.heap.size 140 i0 (.agg #[.int .i64 0, .int .i64 0]) 2 16 Tryz.underlying112 hi hz0 hz1 hz2 rfl (by decide) _ 1 [.int .i64 0, .int .i64 1112064] rfl hown0 va A.length (flatK .i64 A) rfl (Ha.out.below (bel_new (Below.refl _ _) _)) (flatK_len _ _) (flatK_one _ _) (by unfold maxLen; omega) (by omega) (by simp) ?_; intro v1 w1 hown1 hg1; have hB1 : Below w.heap.size w w1 := ((Below.refl w.heap.size w).alloc (Nat.le_refl _) _).grown hg1 (by simp) (fun j hj => (hown0.lt j hj).1))
    | (at_builtin; refine wpList_append_row _ (by rfl) _ _ 112 rfl w.heap.size 140 i0 (.agg #[.int .i64 0, .int .i64 0]) 2 16 Tryz.underlying112 hi hz0 hz1 hz2 rfl (by decide) v1 (1 + A.length) ([.int .i64 0, .int .i64 1112064] ++ flatK .i64 A) rfl hown1 vb B.length (flatK .i64 B) rfl (Hb.out.below hB1) (flatK_len _ _) (flatK_one _ _) (by unfold maxLen; omega) (by omega) (by have := hB1.size; simp at this ⊢; omega) ?_; intro v2 w2 hown2 hg2; have hB2 : Below w.heap.size w w2 := bel_grown hB1 hg2 (fun j hj => (hown1.lt j hj).1)))
  have hT : w2.ownsRow w.heap.size 140 2 v2 ((0, 1112064) :: (A ++ B) : List Pc).length (flatK .i64 ((0, 1112064) :: (A ++ B))) := by
    have e1 : ((0, 1112064) :: (A ++ B) : List Pc).length = 1 + A.length + B.length := by simp; omega
    have e2 : flatK .i64 ((0, 1112064) :: (A ++ B)) = [.int .i64 0, .int .i64 1112064] ++ flatK .i64 A ++ flatK .i64 B := by
      rw [flatK_cons, flatK_append]; simp
    rw [e1, e2]; exact hown2
  clear hown0 hown1 hg1 hB1 hown2 hg2
  go_wp2_with fail
  refine (refCuts_any ((0, 1112064) :: (A ++ B)) _ _ (Row.owned hT) (by simp; omega)).mono ?_
  rintro e w3 ⟨u3, rfl, hown3, hb3⟩
  have hB3 : Below w.heap.size w w3 := bel_then hB2 hb3
  have hcl := cut2_len A B
  have hc2 := (cut2_facts A B Hok.out.1 Hok.out.2).2.2.1
  have hst := cut2_step A B Hok.out.1 Hok.out.2
  obtain ⟨f, hf⟩ : ∃ f : Int → Bool, f = fun x => g (inB A x) (inB B x) := ⟨_, rfl⟩
  obtain ⟨C, hC⟩ : ∃ C, C = cut2 A B := ⟨_, rfl⟩
  have hown3' : w3.ownsRow w2.heap.size 3 1 u3 C.length (C.map (Value.int .i64)) := by rw [hC]; exact hown3
  have hpk : pickP (fun x => g (inB A x) (inB B x)) A B = runsT f C (C.length - 1) := by unfold pickP; rw [hf, hC]
  rw [← hC] at hcl hc2 hst
  have HP := Lib.hid hpk
  obtain ⟨gc, cc, rfl⟩ := Joins.ownsRow_form hown3' (by omega)
  have hcell := fun (m : Nat) (hm : m < C.length) => cell_add (hown3'.cells rfl) m (.int .i64 (C.getD m 0)) (by simp [List.getD, List.getElem?_eq_getElem hm])
  have hgc := (hown3'.lt gc rfl).2
  have hris : Ris (-1) C := by rw [hC]; exact (cut2_facts A B Hok.out.1 Hok.out.2).1
  have HC := Lib.hid (And.intro hst (And.intro hcell hris))
  have HF := Lib.hid hf
  clear hT hB2 hb3 hown3 hown3' hC hpk hst hcell hf hris
  go_wp2_with fail
  go_loopw [9, 10, 11] (fun u op i wr => ∃ k : Nat, k + 1 ≤ C.length ∧ i = .int .i64 k ∧ op = .bool (opn f C k) ∧ wr.ownsRow w3.heap.size 54 2 u (runsT f C k).length (flatK .i32 (rngs (runsT f C k))) ∧ Below w3.heap.size w3 wr)
    (fun _ _ i _ => C.length - (intOf i).toNat)
  case atStart => exact ⟨0, by omega, rfl, rfl, World.ownsRow_nil _ _ _ _, Below.refl _ _⟩
  case round =>
    obtain ⟨k, hk, rfl, rfl, hown, hbel⟩ := hrel
    have hrl := runsT_len f C k
    have hw1 : IntKind.i64.wrap ((k : Int) + 1) = (k : Int) + 1 := iwrap (by omega)
    have hk4 : k < C.length := by omega
    by_cases hk2 : k + 1 < C.length
    · have hk3 : (k : Int) + 1 < (C.length : Int) := by omega
      have kx := HC.out.2.1 k (by omega)
      have ky := HC.out.2.1 (k + 1) hk2
      rw [← hbel.cell hgc] at kx ky
      obtain ⟨b0, b1, b2⟩ := HC.out.1 k hk2
      obtain ⟨x, hx⟩ : ∃ x, x = C.getD k 0 := ⟨_, rfl⟩
      obtain ⟨y, hy⟩ : ∃ y, y = C.getD (k + 1) 0 := ⟨_, rfl⟩
      rw [← hx] at kx b0 b1
      rw [← hy] at ky b1 b2
      have hBw : Below w.heap.size w wr := bel_then hB3 hbel
      have hfx : f x = g (inB A x) (inB B x) := by rw [HF.out]
      obtain ⟨xa, hxa⟩ : ∃ xa, xa = inB A x := ⟨_, rfl⟩
      obtain ⟨xb, hxb⟩ : ∃ xa, xa = inB B x := ⟨_, rfl⟩
      rw [← hxa, ← hxb] at hfx
      have HX := Lib.hid (And.intro hx (And.intro hy (And.intro hxa (And.intro hxb hfx))))
      clear hx hy hxa hxb hfx
      go_wp2_with fail
      go_region_held3 (fun w' => w'.cell? ⟨gc, k, none⟩ = some (.int .i64 x))
        (first | (simp [go_sem, *]; done) | go_keep)
        (first
        | (go_at_call_of 77 va; refine (refIn_any A _ _ _ (Ha.out.below (by repeat (first | exact Below.refl _ _ | assumption | (refine Below.drew ?_) | (refine below_drewN ?_ _) | (refine bel_new ?_ _) | (refine bel_then ?_ (by assumption))))) (by omega)).mono ?_; rintro e w' ⟨rfl, rfl⟩; rw [← HX.out.2.2.1])
        | (go_at_call 77; refine (refIn_any B _ _ _ (Hb.out.below (by repeat (first | exact Below.refl _ _ | assumption | (refine Below.drew ?_) | (refine below_drewN ?_ _) | (refine bel_new ?_ _) | (refine bel_then ?_ (by assumption))))) (by omega)).mono ?_; rintro e w' ⟨rfl, rfl⟩; rw [← HX.out.2.2.2.1]))
      go_upto_region 9 with (fail)
      go_cut [14] (fun s14 wx => s14 = .bool (g xa xb) ∧ Below wr.heap.size wr wx)
      case first =>
        clear kx ky b0 b1 b2 hown
        rcases Hg.out with ⟨rfl, rfl⟩ | ⟨rfl, rfl⟩ | ⟨rfl, rfl⟩ | ⟨rfl, rfl⟩ <;> cases xa <;> cases xb
        all_goals
          go_wp2_with fail
          go_meet
          exact ⟨rfl, by repeat (first | exact Below.refl _ _ | assumption | (refine Below.drew ?_) | (refine below_drewN ?_ _) | (refine bel_new ?_ _) | (refine bel_then ?_ (by assumption)))⟩
      case rest =>
        obtain ⟨rfl, hbq⟩ := hcut
        have hownq := owns_below hown hbq
        have hBq : Below w3.heap.size w3 wc := bel_then hbel hbq
        have kxq := (hbq.cell (show gc < wr.heap.size by have := hbel.size; omega)).trans kx
        have kyq := (hbq.cell (show gc < wr.heap.size by have := hbel.size; omega)).trans ky
        clear hown kx ky hbq hbel
        obtain ⟨z, hz⟩ : ∃ z, z = g xa xb := ⟨_, rfl⟩
        have hfz := HX.out.2.2.2.2
        rw [← hz] at hfz ⊢
        obtain ⟨op, hop⟩ : ∃ z, z = opn f C k := ⟨_, rfl⟩
        rw [← hop]
        have hfz' : f (C.getD k 0) = z := by rw [← HX.out.1]; exact hfz
        have HO := Lib.hid (And.intro hop hfz')
        clear hop hfz hfz' hz
        have hopn : z = opn f C (k + 1) := HO.out.2.symm
        have HON := Lib.hid hopn
        clear hopn
        cases z with
        | false =>
          have hrun : runsT f C (k + 1) = runsT f C k := by
            have h := HO.out.2
            unfold runsT; rw [if_neg (by rw [h]; simp)]
            cases k <;> rfl
          go_wp2_with fail
          go_roundw
          case rel => exact ⟨k + 1, by omega, by go_num, by rw [HON.out], by rw [hrun]; exact hownq, hBq⟩
          case measure => simp [intOf] <;> omega
        | true =>
          obtain ⟨R, hR⟩ : ∃ R, R = runsT f C k := ⟨_, rfl⟩
          rw [← hR] at hownq hrl
          have hwy : IntKind.i64.wrap (y - 1) = y - 1 := iwrap (by omega)
          have hBs := hBq.size
          cases op with
          | false =>
            have hrun : runsT f C (k + 1) = R ++ [(x, y)] := by
              have h := HO.out.2
              unfold runsT; rw [if_pos h, ← HO.out.1, if_neg (by simp), ← hR, HX.out.1, HX.out.2.1]
            have HR := Lib.hid hrun
            clear hrun hR
            go_upto_region 12 with (first
              | (go_at_call 78; refine (refAt_any _ _ (by omega)).mono ?_; rintro e w' ⟨rfl, rfl⟩)
              | (at_builtin; refine wpList_append_row _ (by rfl) _ _ 39 rfl w3.heap.size 54 i1 (.agg #[.int .i32 0, .int .i32 0]) 2 8 Tryz.underlying39 ki kz0 kz1 kz2 rfl (by decide) _ R.length (flatK .i32 (rngs R)) rfl (hownq.alloc _) _ 1 [.int .i32 (vlu x), .int .i32 0] rfl (rowNew2 _ _ _ _ wc.heap.size rfl) rfl (by simp [Value.oneCell']) (by unfold maxLen; omega) (by omega) (by simp; omega) ?_; intro v4 w4 hown4 hg4))
            have hB4 : Below w3.heap.size w3 w4 := bel_grown (by repeat (first | exact Below.refl _ _ | assumption | (refine Below.drew ?_) | (refine below_drewN ?_ _) | (refine bel_new ?_ _) | (refine bel_then ?_ (by assumption)))) hg4 (fun j hj => (hownq.lt j hj).1)
            have ky4 : w4.cell? ⟨gc, k + 1, none⟩ = some (.int .i64 y) := (hB4.cell (p := ⟨gc, k + 1, none⟩) hgc).trans ((hBq.cell (p := ⟨gc, k + 1, none⟩) hgc).symm.trans kyq)
            clear hg4 hownq
            obtain ⟨g4, c4, rfl⟩ := Joins.ownsRow_form hown4 (by omega)
            have f7 := hown4.frozenAt (R.length * 2 + 1)
            have hs1 := (hown4.stored (R.length * 2 + 1) (.int .i32 (vlu (y - 1)))).1
            have hB5 := hB4.setCell (p := ⟨g4, R.length * 2 + 1, none⟩) (hown4.lt g4 rfl).1 (.int .i32 (vlu (y - 1)))
            have g1 : w4.cell? ⟨g4, R.length * 2 + 1, none⟩ = some (.int .i32 0) := by
              rw [hown4.cellAt _ (by omega)]
              have e1 := flatK_len .i32 (rngs R)
              rw [rngs_len] at e1
              rw [List.getElem?_append_right (by omega), e1, show R.length * 2 + 1 - R.length * 2 = 1 by omega]; rfl
            have H1 := Lib.hid (And.intro hs1 hB5)
            clear hs1 hB5 hown4 hB4
            have hwm : IntKind.i64.wrap (R.length : Int) = (R.length : Int) := iwrap (by omega)
            have hwm1 : (0 : Int) ≤ (R.length : Int) := by omega
            have hwm2 : (R.length : Int) < (R.length : Int) + 1 := by omega
            go_wp2_with (go_at_call 78; refine (refAt_any _ _ (by omega)).mono ?_; rintro e w' ⟨rfl, rfl⟩)
            go_roundw
            case rel =>
              refine ⟨k + 1, by omega, by go_num, by rw [HON.out], ?_, H1.out.2⟩
              have h := H1.out.1
              have e2 : (flatK .i32 (rngs R) ++ [Value.int .i32 (vlu x), Value.int .i32 0]).set (R.length * 2 + 1) (Value.int .i32 (vlu (y - 1))) = flatK .i32 (rngs (R ++ [(x, y)])) := by
                have h3 := flatK_last .i32 (rngs R) (vlu x, 0) (vlu (y - 1))
                rw [rngs_len, flatK_append] at h3
                rw [rngs_app, flatK_append]
                rw [flatK_append] at h3
                exact h3
              rw [HR.out, ← e2, List.length_append]
              exact h
            case measure => simp [intOf] <;> omega
          | true =>
            obtain ⟨t, q, hRt, _⟩ := (runs_all f C (-1) HC.out.2.2 k (by omega)).2.2.1 HO.out.1.symm
            have hrun : runsT f C (k + 1) = t ++ [(q.1, y)] := by
              have h := HO.out.2
              unfold runsT; rw [if_pos h, if_pos HO.out.1.symm, hRt, ext_snoc, HX.out.2.1]
            rw [hRt] at hR
            obtain ⟨m, hm⟩ : ∃ m, m = t.length := ⟨_, rfl⟩
            have hl : R.length = m + 1 := by rw [hR, hm]; simp
            have hat := (flatK_at .i32 (rngs R) m (by rw [rngs_len]; omega)).2
            obtain ⟨v0, hv0⟩ : ∃ v0, v0 = ((rngs R).getD m (0, 0)).2 := ⟨_, rfl⟩
            rw [← hv0] at hat
            rw [hl] at hownq hrl
            have HR := Lib.hid (And.intro hrun (And.intro hR hm))
            clear hrun hR hRt hv0 hm
            obtain ⟨g4, c4, rfl⟩ := Joins.ownsRow_form hownq (by omega)
            have f7 := hownq.frozenAt (m * 2 + 1)
            have hs1 := (hownq.stored (m * 2 + 1) (.int .i32 (vlu (y - 1)))).1
            have hB5 := hBq.setCell (p := ⟨g4, m * 2 + 1, none⟩) (hownq.lt g4 rfl).1 (.int .i32 (vlu (y - 1)))
            have g1 : wc.cell? ⟨g4, m * 2 + 1, none⟩ = some (.int .i32 v0) := by
              rw [hownq.cellAt _ (by omega)]; exact hat
            have H1 := Lib.hid (And.intro hs1 hB5)
            clear hs1 hB5 hownq hBq hat
            have hwm : IntKind.i64.wrap (m : Int) = (m : Int) := iwrap (by omega)
            have hwm1 : (0 : Int) ≤ (m : Int) := by omega
            have hwm2 : (m : Int) < (m : Int) + 1 := by omega
            go_wp2_with (go_at_call 78; refine (refAt_any _ _ (by omega)).mono ?_; rintro e w' ⟨rfl, rfl⟩)
            go_roundw
            case rel =>
              refine ⟨k + 1, by omega, by go_num, by rw [HON.out], ?_, H1.out.2⟩
              have h := H1.out.1
              obtain ⟨k2, k3, k4⟩ := HR.out
              have e2 : (flatK .i32 (rngs R)).set (m * 2 + 1) (Value.int .i32 (vlu (y - 1))) = flatK .i32 (rngs (t ++ [(q.1, y)])) := by
                have h3 := flatK_last .i32 (rngs t) (vlu q.1, vlu (q.2 - 1)) (vlu (y - 1))
                rw [rngs_len, ← k4] at h3
                rw [k3, rngs_app, rngs_app]
                exact h3
              have e3 : (t ++ [(q.1, y)]).length = m + 1 := by rw [k4]; simp
              rw [k2, e3, ← e2]
              exact h
            case measure => simp [intOf] <;> omega
    · have hkn : k + 1 = C.length := by omega
      have hk3 : decide ((k : Int) + 1 < (C.length : Int)) = false := by simp; omega
      have e1 : C.length - 1 = k := by omega
      go_wp2_with fail
      go_ret
      rw [HP.out, e1]
      exact ⟨_, rfl, Joins.ownsRow_le hown (by have := hB3.size; omega), bel_then hB3 hbel⟩
end Go.Proofs.YtmgfpcblbbpahaaGreat

namespace Go.Proofs.YtmgfpcblbbpahaaGreat
open Go.RowKit Ru

theorem rowNil (w : World) : Row w (.slice none 0 0) 0 [] := ⟨none, 0, rfl, Nat.le_refl _, by decide, .inl ⟨rfl, fun _ => rfl⟩⟩
namespace Ru
/-- what the reference picks is the set in normal form -/
theorem pick_eq (g : Bool → Bool → Bool) (a b T : List Pc) (hT : nrm T = T) (h : ∀ p, inR T p ↔ 0 ≤ p ∧ p < 1112064 ∧ g (inB (raw a) p) (inB (raw b) p) = true) :
    rngs (pickP (fun x => g (inB (raw a) x) (inB (raw b) x)) (raw a) (raw b)) = T ∧ (pickP (fun x => g (inB (raw a) x) (inB (raw b) x)) (raw a) (raw b)).length = T.length := by
  obtain ⟨h1, h2⟩ := pick_all g (raw a) (raw b) (fun q hq => raw_mem hq) (fun q hq => raw_mem hq)
  obtain ⟨D, hD⟩ : ∃ D, D = pickP (fun x => g (inB (raw a) x) (inB (raw b) x)) (raw a) (raw b) := ⟨_, rfl⟩
  rw [← hD] at h1 h2 ⊢
  have hb : Bd D := fun q hq => by
    have hp := h1.pos q hq
    have := (h2 (q.2 - 1)).1 ⟨q, hq, by omega, by omega⟩
    omega
  have e : rngs D = T := norm_ext (by unfold nrm; rw [pcs_rngs h1 hb]) hT (fun p => by rw [inR_rngs h1 hb, h2, h])
  exact ⟨e, by rw [← e, rngs_len]⟩
theorem inB_raw (a : List Pc) (p : Int) : inB (raw a) p = true ↔ inR a p := by rw [inB_iff, inP_raw]
end Ru

set_option maxHeartbeats 1000000 in
theorem refNorm_any (a : List Pc) (va : Value) (w : World) (ha : Row w va a.length (flatK .i32 a)) (za : i32s a) (na : a.length ≤ 5000) :
    Calls Tryz.prog 75 #[va] w fun e w' => ∃ u, e = .returned u ∧ w'.ownsRow w.heap.size 54 2 u (nrm a).length (flatK .i32 (nrm a)) ∧ Below w.heap.size w w' := by
  have hpk := pick_eq (fun x _ => x) a [] (nrm a) (nrm_norm a) (fun p => by
    rw [inR_nrm, inB_raw]; exact ⟨fun h => ⟨(inR_range h).1, (inR_range h).2, h⟩, fun h => h.2.2⟩)
  go_enter Tryz.func75, Tryz.ntmps75
  go_wp2_with (first
    | (go_at_call 74; refine (refCells_any a va _ ha za (by omega)).mono ?_; rintro e w1 ⟨u1, rfl, hown1, hb1⟩)
    | (go_at_call 100; refine (refPick_any (raw a) (raw []) _ _ 1 (fun x _ => x) _ (Row.owned hown1) (rowNil _) (fun q hq => raw_mem hq) (fun q hq => raw_mem hq) (by have := raw_le a; omega) (by decide) (.inl ⟨rfl, rfl⟩)).mono ?_; rintro e w2 ⟨u2, rfl, hown2, hb2⟩))
  go_ret
  rw [hpk.1, hpk.2] at hown2
  exact ⟨_, rfl, Joins.ownsRow_le hown2 hb1.size, bel_then hb1 hb2⟩

theorem length_ins (p : Pc) : ∀ l, (ins p l).length = l.length + 1
  | [] => rfl
  | q :: l => by unfold ins; split <;> simp [length_ins p l]
theorem length_srt : ∀ l, (srt l).length = l.length
  | [] => rfl
  | p :: l => by simp [srt, length_ins, length_srt l]
theorem pcs_le (l : List Pc) : (pcs l).length ≤ l.length := by
  have h1 := merge_len (srt (raw l))
  rw [length_srt] at h1
  exact Nat.le_trans h1 (raw_le l)
theorem nrm_le (l : List Pc) : (nrm l).length ≤ l.length := by unfold nrm; rw [rngs_len]; exact pcs_le l
set_option maxHeartbeats 1000000 in
theorem refMay_any (a : List Pc) (va : Value) (w : World) (ha : Row w va a.length (flatK .i32 a)) (za : i32s a) (na : a.length ≤ 5000) :
    Calls Tryz.prog 98 #[va] w fun e w' => e = .returned (.bool (mayB a)) ∧ Below w.heap.size w w' := by
  have hl := nrm_le a
  rw [may_eq]
  go_enter Tryz.func98, Tryz.ntmps98
  go_wp2_with (first
    | (go_at_call 75; refine (refNorm_any a va _ ha za na).mono ?_; rintro e w1 ⟨u1, rfl, hown1, hb1⟩)
    | (go_at_call 19; refine (refSame_any a (nrm a) _ _ _ (ha.below hb1) (Row.owned hown1) (by omega) (by omega)).mono ?_; rintro e w2 ⟨rfl, hb2⟩))
  go_ret
  exact ⟨rfl, bel_then hb1 hb2⟩

end Go.Proofs.YtmgfpcblbbpahaaGreat
