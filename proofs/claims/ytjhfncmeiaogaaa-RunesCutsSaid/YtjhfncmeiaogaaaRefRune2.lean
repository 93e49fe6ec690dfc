/- runes, the reference: cuts. -/
import Derived.Test.YtjhfncmeiaogaaaRefRune1
set_option linter.unusedVariables false
set_option linter.unusedSimpArgs false
namespace Go.Proofs.Ytjhfncmeiaogaaa
open Go.RowKit Ru

theorem infoInt3 : ∃ i, Try.prog.info? 3 = some i ∧ i.zero = some (.int .i64 0) ∧ i.size = 1 ∧ i.bytes = 8 := info_parts (by kernel_rfl)
theorem elemInts3 : Try.prog.elem 31 = 3 := by kernel_rfl
theorem undInts3 : Try.prog.underlying 31 = some (.slice (Try.prog.elem 31)) := by rw [elemInts3]; exact Try.underlying31
/-- 'l[:k]' and 'l[k:]' of ints as facts for a walk -/
theorem cutI_h (o : Option Addr) (cap n : Nat) (cs : List Value) (hcs : cs.length = n) (k : Nat) (hk : k ≤ n) (hc : n ≤ cap) : ∃ o1 c1,
    (∀ w' : World, (Instr.sliceAt 31 (.slice o n cap) none (some (.int .i64 k)) none).run Try.prog w' = .ok (.slice o1 k c1) w') ∧
      ∀ w', Row w' (.slice o n cap) n cs → Row w' (.slice o1 k c1) k (cs.take k) := by
  obtain ⟨i0, hi, hz0, hz1, hz2⟩ := infoInt3
  have e1 : ((k : Int)).toNat = k := by simp
  refine ⟨(if cap = 0 then o else o.map (·.add (0 * 1))), cap - 0, fun w' => ?_, fun w' hr => ?_⟩
  · have hsz : (sizeOf (Try.prog.elem 31)).run Try.prog w' = .ok 1 w' := by
      rw [elemInts3]; simp [sizeOf, run_typeInfo _ hi, hz1, go_sem]
    rw [run_sliceAt_slice _ _ _ _ _ _ undInts3, run_slice_h w' 31 o n cap undInts3 .i64 (k : Int) (by omega) (by omega), hsz]
    rw [Result.andThen_ok, e1]
    unfold Go.sliced
    rw [Nat.sub_zero k]
  · have h := hr.sliced hcs (Nat.zero_le k) hk
    unfold Go.sliced at h
    rw [Nat.sub_zero k, List.drop_zero] at h
    exact h
theorem cutI_l (o : Option Addr) (cap n : Nat) (cs : List Value) (hcs : cs.length = n) (k : Nat) (hk : k ≤ n) (hc : n ≤ cap) : ∃ o1 c1,
    (∀ w' : World, (Instr.sliceAt 31 (.slice o n cap) (some (.int .i64 k)) none none).run Try.prog w' = .ok (.slice o1 (n - k) c1) w') ∧
      ∀ w', Row w' (.slice o n cap) n cs → Row w' (.slice o1 (n - k) c1) (n - k) (cs.drop k) := by
  obtain ⟨i0, hi, hz0, hz1, hz2⟩ := infoInt3
  have e1 : ((k : Int)).toNat = k := by simp
  refine ⟨(if cap = k then o else o.map (·.add (k * 1))), cap - k, fun w' => ?_, fun w' hr => ?_⟩
  · have hsz : (sizeOf (Try.prog.elem 31)).run Try.prog w' = .ok 1 w' := by
      rw [elemInts3]; simp [sizeOf, run_typeInfo _ hi, hz1, go_sem]
    rw [run_sliceAt_slice _ _ _ _ _ _ undInts3, run_slice_l w' 31 o n cap undInts3 .i64 (k : Int) (by omega) (by omega), hsz]
    rw [Result.andThen_ok, e1]
    unfold Go.sliced
    rfl
  · have h := hr.sliced hcs hk (Nat.le_refl n)
    unfold Go.sliced at h
    rw [List.take_of_length_le (by simp; omega)] at h
    exact h
theorem rowOne (w : World) (u : Value) (e : TypeId) (B : Nat) (hB : w.heap.size = B) : Row (w.alloc (.cells #[u] e)) (.slice (some ⟨B, 0, none⟩) 1 1) 1 [u] := by
  subst hB
  refine ⟨_, _, rfl, Nat.le_refl _, by decide, .inr ⟨w.heap.size, 0, rfl, by simp, fun j x hx => ?_⟩⟩
  rw [Nat.zero_add, World.cell?_alloc_mark]
  simpa using hx
theorem rowOneD (w : World) (u : Value) (e : TypeId) (B : Nat) (hB : w.heap.size = B) : Row (w.alloc (.cells #[u] e)).drew (.slice (some ⟨B, 0, none⟩) 1 1) 1 [u] := by
  subst hB
  refine ⟨_, _, rfl, Nat.le_refl _, by decide, .inr ⟨w.heap.size, 0, rfl, by simp, fun j x hx => ?_⟩⟩
  rw [Nat.zero_add, World.cell?_drew, World.cell?_alloc_mark]
  simpa using hx

namespace Ru
theorem ends_get : ∀ (P : List Pc) (j : Nat), (ends P).getD (2 * j) 0 = (P.getD j (0, 0)).1 ∧ (ends P).getD (2 * j + 1) 0 = (P.getD j (0, 0)).2
  | [], j => by simp [ends]
  | q :: P, 0 => by simp [ends]
  | q :: P, j + 1 => by
    have h := ends_get P j
    have e1 : 2 * (j + 1) = 2 * j + 1 + 1 := by omega
    have e2 : 2 * (j + 1) + 1 = 2 * j + 1 + 1 + 1 := by omega
    rw [e1]
    simpa [ends] using h
theorem ends_len : ∀ P : List Pc, (ends P).length = 2 * P.length
  | [] => rfl
  | q :: P => by simp only [ends, List.length_cons, ends_len P]; omega
theorem srtD_succ (l : List Int) (k : Nat) (h : k < l.length) : srtD (l.take (k + 1)) = insD (l.getD k 0) (srtD (l.take k)) := by
  have e : l.take (k + 1) = l.take k ++ [l.getD k 0] := by
    rw [List.take_succ_eq_append_getElem h]; simp [List.getD, List.getElem?_eq_getElem h]
  rw [e]; unfold srtD; rw [List.foldl_append]; rfl
theorem insD_len (x : Int) : ∀ l, (insD x l).length ≤ l.length + 1
  | [] => by simp [insD]
  | y :: l => by
    have := insD_len x l
    unfold insD
    split
    · simp
    · split
      · simp
      · simp only [List.length_cons]; omega
theorem srtD_len : ∀ (l s : List Int), (l.foldl (fun s x => insD x s) s).length ≤ l.length + s.length
  | [], s => by simp
  | x :: l, s => by
    have h1 := srtD_len l (insD x s)
    have h2 := insD_len x s
    simp only [List.foldl_cons, List.length_cons]; omega
end Ru

set_option maxHeartbeats 4000000 in
set_option maxRecDepth 1000000 in
theorem refCuts_any (P : List Pc) (v : Value) (w : World) (hr : Row w v P.length (flatK .i64 P)) (hn : P.length ≤ 100000) :
    Calls Try.prog 64 #[v] w fun e w' => ∃ u, e = .returned u ∧ w'.ownsRow w.heap.size 3 1 u (srtD (ends P)).length ((srtD (ends P)).map (Value.int .i64)) ∧ Below w.heap.size w w' := by
  obtain ⟨i0, hi, hz0, hz1, hz2⟩ := infoInt3
  have Hr := Lib.hid hr
  obtain ⟨o, cap, rfl, hcap, hmax, _⟩ := hr
  have hel := ends_len P
  go_enter Try.func64, Try.ntmps64
  go_wp2_with fail
  go_loopw [3, 4] (fun u i wr => ∃ k : Nat, k ≤ 2 * P.length ∧ i = .int .i64 k ∧ wr.ownsRow w.heap.size 3 1 u (srtD ((ends P).take k)).length ((srtD ((ends P).take k)).map (Value.int .i64)) ∧ Below w.heap.size w wr)
    (fun _ i _ => 2 * P.length - (intOf i).toNat)
  case atStart => exact ⟨0, Nat.zero_le _, rfl, World.ownsRow_nil _ _ _ _, Below.refl _ _⟩
  case round =>
    obtain ⟨k, hk, rfl, hown, hbel⟩ := hrel
    have hw2 : IntKind.i64.wrap (2 * (P.length : Int)) = 2 * (P.length : Int) := iwrap (by omega)
    by_cases hk2 : k < 2 * P.length
    · have hk3 : (k : Int) < 2 * (P.length : Int) := by omega
      have hs := srtD_succ (ends P) k (by omega)
      obtain ⟨c, hc⟩ : ∃ c, c = (ends P).getD k 0 := ⟨_, rfl⟩
      obtain ⟨S, hS⟩ : ∃ S, S = srtD ((ends P).take k) := ⟨_, rfl⟩
      have hSl : S.length ≤ k := by
        have := srtD_len ((ends P).take k) []
        rw [List.length_take] at this
        rw [hS]; unfold srtD; simp only [List.length_nil] at this; omega
      rw [← hc, ← hS] at hs
      rw [← hS] at hown
      obtain ⟨j, x, y, hj, hd, hm, hcx, hjx, hjy⟩ : ∃ j : Nat, ∃ x y : Int, j < P.length ∧ (k : Int).tdiv 2 = (j : Int) ∧ ((k : Int).tmod 2 = 0 ∧ c = x ∨ (k : Int).tmod 2 = 1 ∧ c = y) ∧ True ∧ (P.getD j (0, 0)).1 = x ∧ (P.getD j (0, 0)).2 = y := by
        refine ⟨k / 2, _, _, by omega, by rw [Int.tdiv_eq_ediv_of_nonneg (by omega)]; omega, ?_, trivial, rfl, rfl⟩
        have h := ends_get P (k / 2)
        rcases Nat.mod_two_eq_zero_or_one k with h2 | h2
        · left
          refine ⟨by rw [Int.tmod_eq_emod_of_nonneg (by omega)]; omega, ?_⟩
          rw [hc, ← h.1]; congr 1; omega
        · right
          refine ⟨by rw [Int.tmod_eq_emod_of_nonneg (by omega)]; omega, ?_⟩
          rw [hc, ← h.2]; congr 1; omega
      obtain ⟨b, off, cap', e, hlt⟩ := Hr.out.head (by omega)
      simp only [Value.slice.injEq, true_and] at e
      obtain ⟨rfl, rfl⟩ := e
      obtain ⟨_, c1, c2⟩ := Hr.out.pair hj rfl
      rw [← hbel.cell hlt] at c1 c2
      rw [hjx] at c1
      rw [hjy] at c2
      have Hs := Lib.hid (And.intro hs (And.intro hc hS))
      clear hs hc hS hcx hjx hjy
      obtain ⟨oS, cS, rfl⟩ := owns_slice hown
      have hcapS : S.length ≤ cS := by
        obtain ⟨_, _, e, h, _⟩ := Row.owned hown
        simp only [Value.slice.injEq] at e; omega
      have Hd := Lib.hid hbel
      rcases hm with ⟨hm, rfl⟩ | ⟨hm, rfl⟩
      all_goals
        obtain ⟨wo, rfl⟩ : ∃ wo : World, wo = wr := ⟨_, rfl⟩
        go_wp2_with fail
        go_loopw [6] (fun i wi => ∃ m : Nat, m ≤ S.length ∧ i = .int .i64 m ∧ wi = wo ∧ ∀ j, j < m → S.getD j 0 < c) (fun i _ => S.length - (intOf i).toNat)
        case atStart => exact ⟨0, Nat.zero_le _, rfl, rfl, fun j hj => absurd hj (by omega)⟩
        case round =>
          obtain ⟨m, hml, rfl, rfl, hbelow⟩ := hrel
          by_cases hms : m < S.length
          · obtain ⟨g, cap2, e⟩ := Joins.ownsRow_form hown (by omega)
            simp only [Value.slice.injEq, true_and] at e
            obtain ⟨rfl, rfl⟩ := e
            have k1 := cell_add (hown.cells rfl) m (.int .i64 (S.getD m 0)) (by simp [List.getD, List.getElem?_eq_getElem hms])
            obtain ⟨z, hz⟩ : ∃ z, z = S.getD m 0 := ⟨_, rfl⟩
            rw [← hz] at k1
            have Hz := Lib.hid (And.intro hz hbelow)
            clear hz hbelow
            by_cases hlt2 : z < c
            · go_wp2_with fail
              go_roundw
              case rel => exact ⟨m + 1, by omega, by go_num, by first | rfl | trivial, fun j hj => by
                rcases Nat.lt_or_ge j m with h | h
                · exact Hz.out.2 j h
                · have : j = m := by omega
                  subst this; rw [← Hz.out.1]; exact hlt2⟩
              case measure => simp [intOf] <;> omega
            · by_cases heq : z = c
              · have hins : srtD ((ends P).take (k + 1)) = S := by
                  rw [Hs.out.1, insD_at S c m hml (fun j hj => Hz.out.2 j hj) (fun _ => by rw [← Hz.out.1]; omega), if_pos ⟨hms, by rw [← Hz.out.1]; exact heq⟩]
                have Hi := Lib.hid hins
                clear hins
                go_wp2_with fail
                go_roundw
                case rel => exact ⟨k + 1, by omega, by go_num, by rw [Hi.out]; exact hown, hbel⟩
                case measure => simp [intOf] <;> omega
              · have hins : srtD ((ends P).take (k + 1)) = S.take m ++ c :: S.drop m := by
                  rw [Hs.out.1, insD_at S c m hml (fun j hj => Hz.out.2 j hj) (fun _ => by rw [← Hz.out.1]; omega), if_neg (fun h => heq (by rw [Hz.out.1]; exact h.2))]
                obtain ⟨o5, c5, hst, hsl⟩ := cutI_h (some ⟨g, 0, none⟩) cS S.length (S.map (Value.int .i64)) (by simp) m hml hcapS
                obtain ⟨o6, c6, hst6, hsl6⟩ := cutI_l (some ⟨g, 0, none⟩) cS S.length (S.map (Value.int .i64)) (by simp) m hml hcapS
                have Hi := Lib.hid (And.intro hins (And.intro hsl hsl6))
                clear hins hsl hsl6
                have hBk := hbel.size
                have hown9 := World.ownsRow_lit (e := 3) (base := wr.heap.size) (size := 1) wr #[] 0 (Nat.le_refl _) (by decide) rfl
                go_wp2_with (at_builtin; refine wpList_append_row _ rfl _ _ 31 rfl wr.heap.size 3 i0 (.int .i64 0) 1 8 Try.underlying31 hi hz0 hz1 hz2 rfl (by decide) _ 0 [] rfl hown9 _ m ((S.map (Value.int .i64)).take m) rfl (Hi.out.2.1 _ (Row.owned (hown.alloc _))) (by simp; omega) (fun u hu => ints_one _ _ u (List.mem_of_mem_take hu)) (by unfold maxLen; omega) (by omega) (by simp) ?_; intro v5 w5 hown5 hg5)
                have hB5 : Below wr.heap.size wr w5 := ((Below.refl wr.heap.size wr).alloc (Nat.le_refl _) _).grown hg5 (by simp) (fun j hj => (hown9.lt j hj).1)
                rw [Nat.zero_add, List.nil_append] at hown5
                have hBk5 := hB5.size
                clear hown9 hg5
                go_region_held3 (fun w' => True) (first | trivial | go_keep)
                  (first
                  | (refine step_append_row _ (by rfl) _ _ 31 (by rfl) wr.heap.size 3 i0 _ 1 8 Try.underlying31 hi hz0 hz1 hz2 rfl (by omega) v5 m ((S.map (Value.int .i64)).take m) (by rfl) (by first | exact (hown5.alloc _).drew | exact hown5.alloc _) _ 1 [.int .i64 c] (by rfl) (by first | exact rowOneD _ _ _ w5.heap.size rfl | exact rowOne _ _ _ w5.heap.size rfl) (by rfl) (by simp [Value.oneCell']) (by unfold maxLen; omega) (by omega) (by simp; omega) ?_; intro v6 w6 hown6 hg6; have hB6 : Below wr.heap.size wr w6 := bel_grown (by repeat (first | exact Below.refl _ _ | assumption | (refine Below.drew ?_) | (refine below_drewN ?_ _) | (refine bel_new ?_ _) | (refine bel_then ?_ (by assumption)))) hg6 (fun j hj => (hown5.lt j hj).1); have hS6 := owns_below hown hB6)
                  | (refine step_append_row _ (by rfl) _ _ 31 (by rfl) wr.heap.size 3 i0 _ 1 8 Try.underlying31 hi hz0 hz1 hz2 rfl (by omega) v6 (m + 1) ((S.map (Value.int .i64)).take m ++ [.int .i64 c]) (by rfl) (by first | exact hown6 | exact hown6.drew) _ (S.length - m) ((S.map (Value.int .i64)).drop m) (by rfl) (Hi.out.2.2 _ (Row.owned (by first | exact hS6 | exact hS6.drew))) (by simp) (fun u hu => ints_one _ _ u (List.mem_of_mem_drop hu)) (by unfold maxLen; omega) (by omega) (by have := hB6.size; first | omega | (simp; omega)) ?_; intro v7 w7 hown7 hg7; have hB7 : Below wr.heap.size wr w7 := bel_grown (by repeat (first | exact Below.refl _ _ | assumption | (refine Below.drew ?_) | (refine below_drewN ?_ _) | (refine bel_new ?_ _) | (refine bel_then ?_ (by assumption)))) hg7 (fun j hj => (hown6.lt j hj).1)))
                have h8 : w7.ownsRow w.heap.size 3 1 v7 (srtD ((ends P).take (k + 1))).length ((srtD ((ends P).take (k + 1))).map (Value.int .i64)) := by
                  have h := Joins.ownsRow_le hown7 hBk
                  have e1 : (S.take m ++ c :: S.drop m).length = m + 1 + (S.length - m) := by simp; omega
                  have e2 : (S.take m ++ c :: S.drop m).map (Value.int .i64) = (S.map (Value.int .i64)).take m ++ [.int .i64 c] ++ (S.map (Value.int .i64)).drop m := by simp [List.map_take, List.map_drop]
                  rw [Hi.out.1, e1, e2]; exact h
                have H8 := Lib.hid (And.intro h8 (bel_then hbel hB7))
                clear h8 hown7 hown6 hown5 hg6 hg7 hB5 hB6 hB7 hS6
                go_wp2_with fail
                go_roundw
                case rel => exact ⟨k + 1, by omega, by go_num, H8.out.1, H8.out.2⟩
                case measure => simp [intOf] <;> omega
          · have hmS : m = S.length := by omega
            have hins : srtD ((ends P).take (k + 1)) = S.take m ++ c :: S.drop m := by
              rw [Hs.out.1, insD_at S c m hml (fun j hj => hbelow j hj) (fun h => absurd h hms), if_neg (fun h => hms h.1)]
            obtain ⟨o5, c5, hst, hsl⟩ := cutI_h oS cS S.length (S.map (Value.int .i64)) (by simp) m hml hcapS
            obtain ⟨o6, c6, hst6, hsl6⟩ := cutI_l oS cS S.length (S.map (Value.int .i64)) (by simp) m hml hcapS
            have Hi := Lib.hid (And.intro hins (And.intro hsl hsl6))
            clear hins hsl hsl6 hmS
            have hBk := hbel.size
            have hown9 := World.ownsRow_lit (e := 3) (base := wr.heap.size) (size := 1) wr #[] 0 (Nat.le_refl _) (by decide) rfl
            go_wp2_with (at_builtin; refine wpList_append_row _ rfl _ _ 31 rfl wr.heap.size 3 i0 (.int .i64 0) 1 8 Try.underlying31 hi hz0 hz1 hz2 rfl (by decide) _ 0 [] rfl hown9 _ m ((S.map (Value.int .i64)).take m) rfl (Hi.out.2.1 _ (Row.owned (hown.alloc _))) (by simp; omega) (fun u hu => ints_one _ _ u (List.mem_of_mem_take hu)) (by unfold maxLen; omega) (by omega) (by simp) ?_; intro v5 w5 hown5 hg5)
            have hB5 : Below wr.heap.size wr w5 := ((Below.refl wr.heap.size wr).alloc (Nat.le_refl _) _).grown hg5 (by simp) (fun j hj => (hown9.lt j hj).1)
            rw [Nat.zero_add, List.nil_append] at hown5
            have hBk5 := hB5.size
            clear hown9 hg5
            go_region_held3 (fun w' => True) (first | trivial | go_keep)
              (first
              | (refine step_append_row _ (by rfl) _ _ 31 (by rfl) wr.heap.size 3 i0 _ 1 8 Try.underlying31 hi hz0 hz1 hz2 rfl (by omega) v5 m ((S.map (Value.int .i64)).take m) (by rfl) (by first | exact (hown5.alloc _).drew | exact hown5.alloc _) _ 1 [.int .i64 c] (by rfl) (by first | exact rowOneD _ _ _ w5.heap.size rfl | exact rowOne _ _ _ w5.heap.size rfl) (by rfl) (by simp [Value.oneCell']) (by unfold maxLen; omega) (by omega) (by simp; omega) ?_; intro v6 w6 hown6 hg6; have hB6 : Below wr.heap.size wr w6 := bel_grown (by repeat (first | exact Below.refl _ _ | assumption | (refine Below.drew ?_) | (refine below_drewN ?_ _) | (refine bel_new ?_ _) | (refine bel_then ?_ (by assumption)))) hg6 (fun j hj => (hown5.lt j hj).1); have hS6 := owns_below hown hB6)
              | (refine step_append_row _ (by rfl) _ _ 31 (by rfl) wr.heap.size 3 i0 _ 1 8 Try.underlying31 hi hz0 hz1 hz2 rfl (by omega) v6 (m + 1) ((S.map (Value.int .i64)).take m ++ [.int .i64 c]) (by rfl) (by first | exact hown6 | exact hown6.drew) _ (S.length - m) ((S.map (Value.int .i64)).drop m) (by rfl) (Hi.out.2.2 _ (Row.owned (by first | exact hS6 | exact hS6.drew))) (by simp) (fun u hu => ints_one _ _ u (List.mem_of_mem_drop hu)) (by unfold maxLen; omega) (by omega) (by have := hB6.size; first | omega | (simp; omega)) ?_; intro v7 w7 hown7 hg7; have hB7 : Below wr.heap.size wr w7 := bel_grown (by repeat (first | exact Below.refl _ _ | assumption | (refine Below.drew ?_) | (refine below_drewN ?_ _) | (refine bel_new ?_ _) | (refine bel_then ?_ (by assumption)))) hg7 (fun j hj => (hown6.lt j hj).1)))
            have h8 : w7.ownsRow w.heap.size 3 1 v7 (srtD ((ends P).take (k + 1))).length ((srtD ((ends P).take (k + 1))).map (Value.int .i64)) := by
              have h := Joins.ownsRow_le hown7 hBk
              have e1 : (S.take m ++ c :: S.drop m).length = m + 1 + (S.length - m) := by simp; omega
              have e2 : (S.take m ++ c :: S.drop m).map (Value.int .i64) = (S.map (Value.int .i64)).take m ++ [.int .i64 c] ++ (S.map (Value.int .i64)).drop m := by simp [List.map_take, List.map_drop]
              rw [Hi.out.1, e1, e2]; exact h
            have H8 := Lib.hid (And.intro h8 (bel_then hbel hB7))
            clear h8 hown7 hown6 hown5 hg6 hg7 hB5 hB6 hB7 hS6
            go_wp2_with fail
            go_roundw
            case rel => exact ⟨k + 1, by omega, by go_num, H8.out.1, H8.out.2⟩
            case measure => simp [intOf] <;> omega
    · have hkn : k = 2 * P.length := by omega
      subst hkn
      rw [List.take_of_length_le (by omega)] at hown
      have hd2 : decide (2 * (P.length : Int) < 2 * (P.length : Int)) = false := by simp
      go_wp2_with fail
      go_ret
      exact ⟨_, rfl, hown, hbel⟩
end Go.Proofs.Ytjhfncmeiaogaaa
