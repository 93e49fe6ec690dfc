/- decode: whole. -/
import Derived.Test.YtkngppkchaadhaaDecOne2
import Derived.Test.YtkngppkchaadhaaCutB
set_option linter.unusedVariables false
set_option linter.unusedSimpArgs false
namespace Go.Proofs.Ytkngppkchaadhaa
open Go.RowKit De

theorem infoItem : ∃ i, Try.prog.info? 54 = some i ∧ i.zero = some (.agg #[.int .i32 0, .int .i64 0, .int .i64 0, .bool false, .bool false]) ∧ i.size = 5 ∧ i.bytes = 32 := info_parts (by kernel_rfl)
theorem ret_2 {u : Value} {k : IntKind} {a b : Int} (h : a = b) : Ending.returned (.tuple #[u, .int k a]) = .returned (.tuple #[u, .int k b]) := by rw [h]
theorem int_eq {k : IntKind} {a b : Int} (h : a = b) : Value.int k a = Value.int k b := by rw [h]
/-- items as cells -/
def itsc (L : List (Nat × It)) : List Value := L.flatMap fun p => itc p.1 p.2
theorem itsc_len (L : List (Nat × It)) : (itsc L).length = L.length * 5 := by
  induction L with
  | nil => rfl
  | cons p L ih => simp only [itsc, List.flatMap_cons, List.length_append, List.length_cons] at ih ⊢; rw [ih]; simp [itc]; omega
theorem itsc_append (A B : List (Nat × It)) : itsc (A ++ B) = itsc A ++ itsc B := by simp [itsc]
theorem itc_one (f : Int) (x : It) : ∀ u ∈ itc f x, u.oneCell' = true := by
  intro u hu
  simp only [itc, List.mem_cons, List.not_mem_nil, or_false] at hu
  rcases hu with rfl | rfl | rfl | rfl | rfl <;> rfl
theorem itsc_one (L : List (Nat × It)) : ∀ u ∈ itsc L, u.oneCell' = true := by
  intro u hu
  simp only [itsc, List.mem_flatMap] at hu
  obtain ⟨p, _, h⟩ := hu
  exact itc_one _ _ u h
theorem drop_map' (bs : List Int) (k : Nat) : (bs.map (Value.int .u8)).drop k = (bs.drop k).map (Value.int .u8) := by simp

theorem one_L (l : List Int) (h0 : l ≠ []) (v : Value) (f : Int) (w : World) (n : Nat) (hn : n = l.length) (hr : Row w v n (l.map (Value.int .u8))) (hu : ∀ x ∈ l, 0 ≤ x ∧ x < 256) (hf : 0 ≤ f ∧ f ≤ 1000000000) (hl : n ≤ 1000000) :
    Calls Try.prog 43 #[v, .int .i64 f] w fun e w' => e = .returned (.tuple #[.agg #[.int .i32 (one l).r, .int .i64 f, .int .i64 (f + (one l).n), .bool (one l).bad, .bool (one l).more], .bool (one l).opn]) ∧ Below w.heap.size w w' := by
  subst hn
  cases l with
  | nil => exact absurd rfl h0
  | cons c t => exact one_any c t v f w hr hu hf hl
theorem rowNew5 (w : World) (a b c d e : Value) (t : TypeId) (B : Nat) (hB : w.heap.size = B) : Row (w.alloc (.cells #[a, b, c, d, e] t)) (.slice (some ⟨B, 0, none⟩) 1 1) 1 [a, b, c, d, e] := by
  subst hB
  have h1 := World.ownsRow_lit (e := t) (base := w.heap.size) (size := 5) w #[a, b, c, d, e] 1 (Nat.le_refl _) (by decide) (by simp)
  simpa using Row.owned h1

theorem grown_item {w1 w2 : World} {o1 o2 : Obj} {row : Option Nat} (hg : ((w1.alloc o1).alloc o2).grownBy w2 row) (hr : ∀ j, row = some j → j < w1.heap.size) : w2.heap[w1.heap.size]? = some o1 := by
  rw [hg.block _ (by simp <;> omega) (fun e => by have := hr _ e.symm; omega), Below.heap_alloc _ _ _ (by simp)]
  exact heap_alloc_new w1 o1

set_option maxHeartbeats 2000000 in
set_option maxRecDepth 1000000 in
theorem whole_any (bs : List Int) (v : Value) (f : Nat) (w : World) (hr : Row w v bs.length (bs.map (Value.int .u8))) (hu : ∀ x ∈ bs, 0 ≤ x ∧ x < 256) (hf : f ≤ 100000000) (hl : bs.length ≤ 1000000) :
    Calls Try.prog 42 #[v, .int .i64 f] w fun e w' => ∃ u, e = .returned (.tuple #[u, .int .i64 ((bs.length - (wh f bs).2.length : Nat) : Int)]) ∧
      w'.ownsRow w.heap.size 54 5 u (wh f bs).1.length (itsc (wh f bs).1) ∧ Below w.heap.size w w' := by
  obtain ⟨ii, hi, hz0, hz1, hz2⟩ := infoItem
  have HR := Lib.hid hr
  have HU := Lib.hid hu
  obtain ⟨o, cap, rfl, hcap, hmax, _⟩ := hr
  clear hu
  go_enter Try.func42, Try.ntmps42
  go_wp2_with fail
  go_loopw [6, 7] (fun u i wr => ∃ (k : Nat) (A : List (Nat × It)), k ≤ bs.length ∧ i = .int .i64 k ∧ wr.ownsRow w.heap.size 54 5 u A.length (itsc A) ∧ Below w.heap.size w wr ∧ A.length ≤ k ∧
      wh f bs = (A ++ (wh (f + k) (bs.drop k)).1, (wh (f + k) (bs.drop k)).2))
    (fun _ i _ => bs.length - (intOf i).toNat)
  case atStart => exact ⟨0, [], Nat.zero_le _, rfl, World.ownsRow_nil _ _ _ _, Below.refl _ _, Nat.le_refl _, by simp⟩
  case round =>
    obtain ⟨k, A, hk, rfl, hown, hbel, hAk, hwh⟩ := hrel
    obtain ⟨wo, rfl⟩ : ∃ wo : World, wo = wr := ⟨_, rfl⟩
    by_cases hkt : k < bs.length
    · obtain ⟨o1, c1, hst, hsl⟩ := cutB_l o cap bs.length (bs.map (Value.int .u8)) (by simp) k hk hcap
      have hdl : bs.drop k = bs.getD k 0 :: bs.drop (k + 1) := by
        rw [List.drop_eq_getElem_cons hkt]; simp [List.getD, List.getElem?_eq_getElem hkt]
      have hrow := hsl wo (HR.out.below hbel)
      rw [drop_map'] at hrow
      have hlen : bs.length - k = (bs.drop k).length := by simp
      have HW := Lib.hid hwh
      obtain ⟨x, hx⟩ : ∃ x, x = one (bs.drop k) := ⟨_, rfl⟩
      have hn := one_n (bs.drop k)
      have hnl : x.n ≤ bs.length - k := by rw [hx, hlen]; exact hn.2.2 (by rw [hdl]; simp)
      have hn1 : 1 ≤ x.n := by rw [hx]; exact hn.1
      have hn4 : x.n ≤ 4 := by rw [hx]; exact hn.2.1
      obtain ⟨ov, cv, rfl⟩ := owns_slice hown
      have HO := Lib.hid (And.intro hown (And.intro hrow hbel))
      have HX := Lib.hid hx
      have HD := Lib.hid hdl
      have HL := Lib.hid hlen
      clear hwh hsl hrow hn hx hown hdl hlen
      go_wp2_with fail
      refine (one_L (bs.drop k) (by rw [HD.out]; simp) _ ((f : Int) + k) wo _ HL.out HO.out.2.1 (fun y hy => HU.out y (List.mem_of_mem_drop hy)) (by omega) (by omega)).mono ?_
      rintro e w1 ⟨rfl, hb1⟩
      rw [← HX.out]
      have hB1 : Below w.heap.size w w1 := HO.out.2.2.trans (hb1.mono HO.out.2.2.size)
      have hown1 := owns_below HO.out.1 hb1
      have hsz := hB1.size
      obtain ⟨r, n, bad, more, opn⟩ := x
      simp only at hnl hn1 hn4
      cases opn with
      | true =>
        have HO2 := Lib.hid (And.intro hown1 hB1)
        clear hown1 hB1 hb1
        go_wp2
        go_ret2
        have h := HW.out
        have hop : (one (bs.drop k)).opn = true := by rw [← HX.out]
        rw [wh_open hop] at h
        rw [h]
        refine ⟨_, ret_2 (by simp; omega), by simpa using HO2.out.1.alloc _, HO2.out.2.alloc (by omega) _⟩
      | false =>
        go_wp2_with (at_builtin; refine wpList_append_row _ rfl _ _ 51 rfl w.heap.size 54 ii (.agg #[.int .i32 0, .int .i64 0, .int .i64 0, .bool false, .bool false]) 5 32 Try.underlying51 hi hz0 hz1 hz2 rfl (by decide) _ _ _ rfl ((hown1.alloc _).alloc _) _ 1 [.int .i32 r, .int .i64 ((f : Int) + k), .int .i64 ((f : Int) + k + n), .bool bad, .bool more] rfl (rowNew5 _ _ _ _ _ _ _ _ (by simp)) rfl (by simp [Value.oneCell']) (by unfold maxLen; omega) (by omega) (by simp; omega) ?_; intro v' w2 hown2 hgrow2; have q5 := grown_item hgrow2 (fun j hj => (hown1.lt j hj).2); obtain ⟨⟨_, i1, i2, _, _⟩, _⟩ := cell5_of q5; have q6 : Below w.heap.size w w2 := ((hB1.alloc (by omega) _).alloc (by simp; omega) _).grown hgrow2 (by simp; omega) (fun j hj => (hown1.lt j hj).1); clear q5)
        have H3 := Lib.hid (And.intro hown2 q6)
        clear hown2 q6 hgrow2 hown1 hB1 hb1
        go_wp2
        go_roundw
        case rel =>
          refine ⟨k + n, A ++ [(f + k, ⟨r, n, bad, more, false⟩)], by omega, int_eq (by simp; omega), ?_, H3.out.2, by simp; omega, ?_⟩
          · have h := H3.out.1
            rw [itsc_append, List.length_append]
            simpa [itsc, itc] using h
          · have h := HW.out
            have hne : bs.drop k ≠ [] := by rw [HD.out]; simp
            have hop : (one (bs.drop k)).opn = false := by rw [← HX.out]
            rw [wh_cons hne hop, ← HX.out, List.drop_drop] at h
            rw [h]
            simp only [List.append_assoc, List.singleton_append, Nat.add_assoc]
        case measure => simp [intOf] <;> omega
    · have hkn : k = bs.length := by omega
      subst hkn
      have HW := Lib.hid hwh
      obtain ⟨ov, cv, rfl⟩ := owns_slice hown
      have HO := Lib.hid (And.intro hown hbel)
      clear hwh hown
      go_wp2
      go_ret2
      have h := HW.out
      rw [List.drop_length, wh_nil] at h
      rw [h]
      exact ⟨_, rfl, by simpa using HO.out.1, HO.out.2⟩
end Go.Proofs.Ytkngppkchaadhaa
