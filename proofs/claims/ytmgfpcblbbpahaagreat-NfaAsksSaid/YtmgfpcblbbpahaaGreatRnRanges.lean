/- runes: ranges. -/
import Derived.Test.YtmgfpcblbbpahaaGreatRnWalks2
import Derived.Deep.RegionHeld3
import Derived.Deep.AppendLies
set_option linter.unusedVariables false
set_option linter.unusedSimpArgs false
namespace Go.Proofs.YtmgfpcblbbpahaaGreat.Rn
open Go.RowKit Ru Go.Sort

theorem rowFormRn {w : World} {v : Value} {n : Nat} {cs : List Value} (h : Row w v n cs) : ∃ o c, v = .slice o n c := by obtain ⟨o, c, e, _⟩ := h; exact ⟨o, c, e⟩
theorem iwrap {x : Int} (h : -9223372036854775808 ≤ x ∧ x ≤ 9223372036854775807) : IntKind.i64.wrap x = x := IntWalk.i64_in _ h
theorem rngs_take_succ (P : List Pc) (k : Nat) (h : k < P.length) : rngs (P.take (k + 1)) = rngs (P.take k) ++ [(vlu (P.getD k (0, 0)).1, vlu ((P.getD k (0, 0)).2 - 1))] := by
  rw [take_one P (0, 0) k h]; simp [rngs]
theorem rngs_len (P : List Pc) : (rngs P).length = P.length := by simp [rngs]

theorem rowNew (w : World) (u v : Value) (e : TypeId) (B : Nat) (hB : w.heap.size = B) : Row (w.alloc (.cells #[u, v] e)).drew (.slice (some ⟨B, 0, none⟩) 1 1) 1 [u, v] := by
  subst hB
  refine ⟨_, _, rfl, Nat.le_refl _, by decide, .inr ⟨w.heap.size, 0, rfl, by simp, fun j x hx => ?_⟩⟩
  rw [Nat.zero_add, World.cell?_drew, World.cell?_alloc_mark]
  simpa using hx
theorem rowNew2 (w : World) (u v : Value) (e : TypeId) (B : Nat) (hB : w.heap.size = B) : Row (w.alloc (.cells #[u, v] e)) (.slice (some ⟨B, 0, none⟩) 1 1) 1 [u, v] := by
  subst hB
  refine ⟨_, _, rfl, Nat.le_refl _, by decide, .inr ⟨w.heap.size, 0, rfl, by simp, fun j x hx => ?_⟩⟩
  rw [Nat.zero_add, World.cell?_alloc_mark]
  simpa using hx
set_option maxHeartbeats 1000000 in
set_option maxRecDepth 1000000 in
theorem ranges_any (P : List Pc) (v : Value) (w : World) (hr : Row w v P.length (flatK .i64 P)) (hn : P.length ≤ 10000000) (hb : ∀ q ∈ P, 0 ≤ q.1 ∧ q.1 < q.2 ∧ q.2 ≤ 1112064) :
    Calls Tryz.prog 64 #[v] w fun e w' => ∃ u, e = .returned u ∧ w'.ownsRow w.heap.size 54 2 u (rngs P).length (flatK .i32 (rngs P)) ∧ Below w.heap.size w w' := by
  obtain ⟨i0, hi, hz0, hz1, hz2⟩ := infoRange
  have Hr := Lib.hid hr
  have Hb := Lib.hid hb
  obtain ⟨o, cap, rfl, hcap, hmax, _⟩ := hr
  clear hb
  go_enter Tryz.func64, Tryz.ntmps64
  go_wp2_with fail
  go_loopw [3, 8] (fun u i wr => ∃ k : Nat, k ≤ P.length ∧ i = .int .i64 k ∧ wr.ownsRow w.heap.size 54 2 u (rngs (P.take k)).length (flatK .i32 (rngs (P.take k))) ∧ Below w.heap.size w wr)
    (fun _ i _ => P.length - (intOf i).toNat)
  case atStart => exact ⟨0, Nat.zero_le _, rfl, World.ownsRow_nil _ _ _ _, Below.refl _ _⟩
  case round =>
    obtain ⟨k, hk, rfl, hown, hbel⟩ := hrel
    by_cases hk2 : k < P.length
    · obtain ⟨b, off, cap', e, hlt⟩ := Hr.out.head (by omega)
      simp only [Value.slice.injEq, true_and] at e
      obtain ⟨rfl, rfl⟩ := e
      obtain ⟨_, c1, c2⟩ := Hr.out.pair hk2 rfl
      rw [← hbel.cell hlt] at c1 c2
      have hs := rngs_take_succ P k hk2
      obtain ⟨q, hq⟩ : ∃ q, q = P.getD k (0, 0) := ⟨_, rfl⟩
      have hqb := Hb.out q (by rw [hq]; simp [List.getD, List.getElem?_eq_getElem hk2])
      rw [← hq] at c1 c2 hs
      obtain ⟨lo, hi'⟩ := q
      simp only at c1 c2 hs hqb
      obtain ⟨hq1, hq2, hq3⟩ := hqb
      have hle : (rngs (P.take k)).length ≤ k := by rw [rngs_len]; simp; omega
      have Hs := Lib.hid hs
      have Hq := Lib.hid hq
      clear hs hq
      go_wp2_with fail
      have hw1 : IntKind.i64.wrap (hi' - 1) = hi' - 1 := iwrap (by omega)
      have hfar : u3.ownBlock ≠ some wr.heap.size := fun e => by have := (hown.lt _ e).2; omega
      go_region_held3 (fun w' => w'.cell? ⟨wr.heap.size, 0, none⟩ = some (.int .i64 lo) ∧ w'.cell? ⟨wr.heap.size, 1, none⟩ = some (.int .i64 hi'))
        (first | (simp [go_sem]; done) | go_keep | (refine ⟨?_, ?_⟩ <;> (rw [hgrow1.cell_far _ (by simp; omega) (Ne.symm hfar)]; simp [go_sem])))
        (first
         | (go_at_call 94; refine (value_any _ _ (by omega)).mono ?_; rintro e w' ⟨rfl, rfl⟩)
         | (refine step_append_row _ (by rfl) _ _ 39 (by rfl) w.heap.size 54 i0 _ 2 8 Tryz.underlying39 hi hz0 hz1 hz2 rfl (by omega) _ _ _ (by rfl) ((hown.alloc _).alloc _).drew _ 1 [.int .i32 (vlu lo), .int .i32 (vlu (hi' - 1))] (by rfl) (rowNew _ _ _ _ (wr.heap.size + 1) (by simp)) (by rfl) (by simp [Value.oneCell']) (by unfold maxLen; omega) (by omega) (by have := hbel.size; simp; omega) ?_; intro v' w1 hown1 hgrow1))
      have hB1 : Below w.heap.size w w1 := bel_grown (by repeat (first | exact Below.refl _ _ | assumption | (refine Below.drew ?_) | (refine below_drewN ?_ _) | (refine bel_new ?_ _) | (refine bel_then ?_ (by assumption)))) hgrow1 (fun j hj => (hown.lt j hj).1)
      have H1 := Lib.hid (And.intro hown1 hB1)
      clear hown1 hgrow1 hB1 hown hbel
      go_wp2
      go_roundw
      case rel => exact ⟨k + 1, by omega, by go_num, by rw [Hs.out, List.length_append, flatK_append]; exact H1.out.1, H1.out.2⟩
      case measure => simp [intOf] <;> omega
    · have hkn : k = P.length := by omega
      subst hkn
      rw [List.take_length] at hown
      go_wp2
      go_ret
      exact ⟨_, rfl, hown, hbel⟩
end Go.Proofs.YtmgfpcblbbpahaaGreat.Rn
