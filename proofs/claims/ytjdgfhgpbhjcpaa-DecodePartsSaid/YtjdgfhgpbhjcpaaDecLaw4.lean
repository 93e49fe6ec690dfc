/- The walk of DecodeParts: the mathematics. -/
import Derived.Test.YtjdgfhgpbhjcpaaDecLaw1
import Derived.BigQuiet
import Derived.Deep.QuietTactic
set_option linter.unusedVariables false
set_option linter.unusedSimpArgs false
namespace Go.Proofs.Ytjdgfhgpbhjcpaa
open Go.RowKit De
theorem bel_drewN {B : Nat} {a w : World} (h : Below B a w) (n : Nat) : Below B a (w.drewN n) := ⟨h.os, h.tape, h.output, h.size, h.block⟩
namespace De
/-- where the k-th item begins, and where the list ends -/
def endAt (a : Nat) (L : List (Nat × It)) (k : Nat) : Nat := match k with
  | 0 => a
  | k + 1 => match L[k]? with
    | some (b, x) => b + x.n
    | none => a
theorem all_ind {P : Nat → List Int → Prop} (h0 : ∀ a, P a []) (h1 : ∀ a l, l ≠ [] → P (a + (one l).n) (l.drop (one l).n) → P a l) : ∀ a l, P a l := by
  have : ∀ n a l, l.length ≤ n → P a l := by
    intro n
    induction n with
    | zero => intro a l h; have : l = [] := List.eq_nil_of_length_eq_zero (by omega); subst this; exact h0 a
    | succ n ih =>
      intro a l h
      by_cases hl : l = []
      · subst hl; exact h0 a
      · refine h1 a l hl (ih _ _ ?_)
        have := (one_n l).1
        rw [List.length_drop]
        omega
  exact fun a l => this l.length a l (Nat.le_refl _)
theorem all_parts (a : Nat) (l : List Int) : (∀ k b x, (all a l)[k]? = some (b, x) → b = endAt a (all a l) k ∧ a ≤ b ∧ b - a < l.length ∧ x = one (l.drop (b - a))) ∧ endAt a (all a l) (all a l).length = a + l.length := by
  refine all_ind (P := fun a l => (∀ k b x, (all a l)[k]? = some (b, x) → b = endAt a (all a l) k ∧ a ≤ b ∧ b - a < l.length ∧ x = one (l.drop (b - a))) ∧ endAt a (all a l) (all a l).length = a + l.length) ?_ ?_ a l
  · intro a; rw [all_nil]; exact ⟨fun k b x h => by simp at h, rfl⟩
  · intro a l hl ih
    have hn := (one_n l).2.2 hl
    have hn1 := (one_n l).1
    have hlen : 0 < l.length := by cases l with | nil => exact absurd rfl hl | cons => simp
    obtain ⟨i1, i2⟩ := ih
    rw [all_cons a l hl]
    rw [List.length_drop] at i1 i2
    have step : ∀ k, endAt (a + (one l).n) (all (a + (one l).n) (l.drop (one l).n)) k = endAt a ((a, one l) :: all (a + (one l).n) (l.drop (one l).n)) (k + 1) ∨ (all (a + (one l).n) (l.drop (one l).n)).length < k := by
      intro k
      cases k with
      | zero => left; rfl
      | succ k =>
        by_cases h : k < (all (a + (one l).n) (l.drop (one l).n)).length
        · left
          unfold endAt
          simp only [List.getElem?_cons_succ]
          rw [List.getElem?_eq_getElem h]
        · right; omega
    refine ⟨fun k b x hk => ?_, ?_⟩
    · cases k with
      | zero =>
        simp only [List.getElem?_cons_zero, Option.some.injEq, Prod.mk.injEq] at hk
        obtain ⟨rfl, rfl⟩ := hk
        exact ⟨rfl, Nat.le_refl _, by omega, by simp⟩
      | succ k =>
        rw [List.getElem?_cons_succ] at hk
        obtain ⟨j1, j2, j3, j4⟩ := i1 k b x hk
        have hkl := (List.getElem?_eq_some_iff.1 hk).1
        refine ⟨?_, by omega, by omega, ?_⟩
        · rcases step k with h | h
          · rw [← h]; exact j1
          · omega
        · rw [j4, List.drop_drop]; congr 2; omega
    · rw [List.length_cons]
      rcases step (all (a + (one l).n) (l.drop (one l).n)).length with h | h
      · rw [← h, i2]; omega
      · omega
end De
set_option maxHeartbeats 1500000 in
set_option maxRecDepth 1000000 in
theorem decodeParts_walk (bs : List Int) (v : Value) (w : World) (hr : Row w v bs.length (bs.map (Value.int .u8))) (hu : ∀ x ∈ bs, 0 ≤ x ∧ x < 256) :
    Calls Try.prog 6 #[v] w fun e w' => e = .returned (.bool true) ∧ Below w.heap.size w w' := by
  have hmax := hr.le
  obtain ⟨ov, cv, hcv, rfl⟩ : ∃ o c, bs.length ≤ c ∧ v = .slice o bs.length c := by obtain ⟨o, c, rfl, h, _⟩ := hr; exact ⟨_, _, h, rfl⟩
  have HR := Lib.hid (And.intro hr hu)
  clear hr hu
  by_cases hlen : 400 < bs.length
  · go_enter Try.func6, Try.ntmps6
    go_wp2_with (go_at_call 9; refine (told_any _).mono ?_; rintro e w1 ⟨rfl, hb1⟩)
    go_ret
    exact ⟨rfl, hb1⟩
  have hl1 : bs.length ≤ 400 := by omega
  have hparts := all_parts 0 bs
  have hlb := all_len 0 bs
  have hall := all_any bs (.slice ov bs.length cv) w HR.out.1 HR.out.2 (by omega)
  obtain ⟨L, hL⟩ : ∃ L, L = all 0 bs := ⟨_, rfl⟩
  rw [← hL] at hparts hlb hall
  have HA := Lib.hid hall
  have HP := Lib.hid hparts
  clear hall hparts hL hlen
  go_enter Try.func6, Try.ntmps6
  go_wp2_with fail
  refine HA.out.mono ?_
  rintro e w1 ⟨u1, rfl, hown1, hb1⟩
  obtain ⟨o1, c1, rfl⟩ := owns_slice hown1
  have H1 := Lib.hid (And.intro hown1 hb1)
  clear hown1 hb1
  go_wp2_with fail
  go_loopw [4, 5] (fun at' i wr => ∃ k : Nat, k ≤ L.length ∧ i = .int .i64 k ∧ at' = .int .i64 (endAt 0 L k : Int) ∧ Below w.heap.size w wr ∧ Below w1.heap.size w1 wr)
    (fun _ i _ => L.length - (intOf i).toNat)
  case atStart => exact ⟨0, Nat.zero_le _, rfl, rfl, H1.out.2, Below.refl _ _⟩
  case round =>
    obtain ⟨k, hk, rfl, rfl, hbel, hbel1⟩ := hrel
    obtain ⟨wo, rfl⟩ : ∃ wo : World, wo = wr := ⟨_, rfl⟩
    by_cases hkt : k < L.length
    · obtain ⟨p, hp⟩ : ∃ p, L[k]? = some p := ⟨L[k], List.getElem?_eq_getElem hkt⟩
      obtain ⟨pf, x⟩ := p
      obtain ⟨q1, _, q3, q4⟩ := HP.out.1 k pf x hp
      obtain ⟨b1, f1, k1, e1, hb1, a0, a1, a2, a3, a4⟩ := ((Row.owned H1.out.1).below hbel1).item hp
      simp only [Value.slice.injEq, true_and] at e1
      obtain ⟨rfl, rfl⟩ := e1
      rw [← q1]
      have hnx := one_n (bs.drop pf)
      rw [Nat.sub_zero] at q3 q4
      have hx3 := hnx.2.2 (by intro e; have := congrArg List.length e; simp at this; omega)
      rw [List.length_drop, ← q4] at hx3
      rw [← q4] at hnx
      have hbad := one_bad (bs.drop pf)
      have hgood := one_good (bs.drop pf) (fun y hy => HR.out.2 y (List.mem_of_mem_drop hy))
      rw [← q4] at hbad hgood
      have hend : endAt 0 L (k + 1) = pf + x.n := by simp only [endAt, hp]
      obtain ⟨r, n, bad, more, opn⟩ := x
      simp only at a0 a1 a2 a3 a4 hnx hx3 hbad hgood hend
      have HK := Lib.hid (And.intro hbel (And.intro hbel1 (And.intro hend (And.intro hbad hgood))))
      have hn1 := hnx.1
      clear q1 q3 q4 hnx hbad hgood hbel hbel1 hend hp
      cases bad with
      | true =>
        obtain ⟨rfl, hn3⟩ := HK.out.2.2.2.1 rfl
        have t1 : ((pf : Int) != (pf : Int)) = false := by simp
        have t2 : decide ((pf : Int) + (n : Int) ≤ (pf : Int)) = false := by simp <;> omega
        have t3 : decide ((bs.length : Int) < (pf : Int) + (n : Int)) = false := by simp <;> omega
        have t4 : ((pf : Int) + (n : Int) - (pf : Int)) = (n : Int) := by omega
        have t5 : decide (3 < (n : Int)) = false := by simp <;> omega
        have t6 : decide (3 < n) = false := by simp <;> omega
        have hBx := fun (o : Obj) (q : Nat) => bel_drewN ((Below.refl wo.heap.size wo).alloc (Nat.le_refl _) o) q
        have HB := Lib.hid hBx
        clear hBx
        go_wp2_with fail
        go_quiet (fail)
        go_wp2_with fail
        go_roundw
        case rel =>
          refine ⟨k + 1, by omega, by go_num, int_eq ?_, ?_, ?_⟩
          · rw [HK.out.2.2.1]; simp
          · exact HK.out.1.trans ((HB.out _ _).mono HK.out.1.size)
          · exact HK.out.2.1.trans ((HB.out _ _).mono HK.out.2.1.size)
        case measure => simp [intOf] <;> omega
      | false =>
        obtain ⟨hsc, hput, rfl, rfl⟩ := HK.out.2.2.2.2 rfl
        have t1 : ((pf : Int) != (pf : Int)) = false := by simp
        have t2 : decide ((pf : Int) + (n : Int) ≤ (pf : Int)) = false := by simp <;> omega
        have t3 : decide ((bs.length : Int) < (pf : Int) + (n : Int)) = false := by simp <;> omega
        have hrr : -2147483648 ≤ r ∧ r ≤ 2147483647 := by unfold scl at hsc; omega
        obtain ⟨o1, c1, hcut, hcrow⟩ := cutB_m ov cv bs.length (bs.map (Value.int .u8)) (by simp) pf (pf + n) (by omega) (by omega) hcv ((pf : Int) + (n : Int)) (by simp)
        rw [show pf + n - pf = n from by omega] at hcut hcrow
        obtain ⟨q, hq⟩ : ∃ q, q = strOfNums (put r) := ⟨_, rfl⟩
        have hcv2 : ∀ w', Below wo.heap.size wo w' → (convert 22 9 (.slice o1 n c1)).run Try.prog w' = .ok (.string q) w' := by
          intro w' hb'
          have hpl : (put r).length = n := by rw [hput]; simp; omega
          have h2 := hcrow w' ((HR.out.1.below HK.out.1).below hb')
          rw [hq]
          refine conv_row hpl.symm ?_
          rw [hput, List.map_take, List.map_drop]
          exact h2
        have hnse : ∀ (t : TypeId) (w : World), (binOp .neq t (.string q) (.string q)).run Try.prog w = .ok (.bool false) w := fun t w => by simp [go_sem]
        have HS := Lib.hid (And.intro hcv2 (And.intro hq hput))
        clear hcv2 hq hput hcrow hsc
        have hii : (0 : Int) ≤ (pf : Int) := by omega
        have hij : (pf : Int) ≤ (pf : Int) + (n : Int) := by omega
        go_wp2_with fail
        obtain ⟨wx, hwx⟩ : ∃ wx : World, wx = wo.alloc (.cells #[.int .i32 r, .int .i64 pf, .int .i64 ((pf : Int) + (n : Int)), .bool false, .bool false] 36) := ⟨_, rfl⟩
        have hBx : Below wo.heap.size wo wx := by rw [hwx]; exact bel_new (Below.refl _ _) _
        have hsz : wo.heap.size < wx.heap.size := by rw [hwx]; simp
        have hS1 : ∀ w', Below wx.heap.size wx w' → w'.cell? ⟨wo.heap.size, 0, none⟩ = some (.int .i32 r) ∧ w'.cell? ⟨wo.heap.size, 1, none⟩ = some (.int .i64 pf) ∧ w'.cell? ⟨wo.heap.size, 2, none⟩ = some (.int .i64 ((pf : Int) + (n : Int))) ∧ w'.cell? ⟨wo.heap.size, 3, none⟩ = some (.bool false) ∧ w'.cell? ⟨wo.heap.size, 4, none⟩ = some (.bool false) ∧ (convert 22 9 (.slice o1 n c1)).run Try.prog w' = .ok (.string q) w' := by
          intro w' hb'
          have hcell := fun i => (hb'.cell (p := ⟨wo.heap.size, i, none⟩) hsz)
          rw [hwx] at hcell
          refine ⟨?_, ?_, ?_, ?_, ?_, HS.out.1 _ (bel_then hBx hb')⟩ <;> (rw [hcell]; simp [go_sem])
        have HS1 := Lib.hid hS1
        rw [← hwx]
        clear hwx hS1
        have hS0 := HS1.out wx.drew (Below.refl _ _).drew
        refine wp_region_held_drew (S := fun w' => w'.cell? ⟨wo.heap.size, 0, none⟩ = some (.int .i32 r) ∧ w'.cell? ⟨wo.heap.size, 1, none⟩ = some (.int .i64 pf) ∧ w'.cell? ⟨wo.heap.size, 2, none⟩ = some (.int .i64 ((pf : Int) + (n : Int))) ∧ w'.cell? ⟨wo.heap.size, 3, none⟩ = some (.bool false) ∧ w'.cell? ⟨wo.heap.size, 4, none⟩ = some (.bool false) ∧ (convert 22 9 (.slice o1 n c1)).run Try.prog w' = .ok (.string q) w') (by kernel_rfl) hS0 (fun _ => ?_)
        refine wpAnyH_take (i := 0) (v := ?_) rfl (by kernel_rfl) (by kernel_rfl) (by kernel_rfl) (fun _ _ _ h => h) (Or.inl ⟨by rfl, ?_⟩) hS0 ?_
        rotate_left
        · intro w hSw; obtain ⟨c0, c1, c2, c3, c4, c5⟩ := hSw; go_simp; try with_reducible rfl
        try simp only [Act.put, List.setIfInBounds_toArray, List.set_cons_zero, List.set_cons_succ, List.getElem_toArray, List.getElem_cons_succ, List.getElem_cons_zero]
        refine wpAnyH_take (i := 1) (v := ?_) rfl (by kernel_rfl) (by kernel_rfl) (by kernel_rfl) (fun _ _ _ h => h) (Or.inl ⟨by rfl, ?_⟩) hS0 ?_
        rotate_left
        · intro w hSw; obtain ⟨c0, c1, c2, c3, c4, c5⟩ := hSw; go_simp; try with_reducible rfl
        try simp only [Act.put, List.setIfInBounds_toArray, List.set_cons_zero, List.set_cons_succ, List.getElem_toArray, List.getElem_cons_succ, List.getElem_cons_zero]
        refine wpAnyH_take (i := 2) (v := ?_) rfl (by kernel_rfl) (by kernel_rfl) (by kernel_rfl) (fun _ _ _ h => h) (Or.inl ⟨by rfl, ?_⟩) hS0 ?_
        rotate_left
        · intro w hSw; obtain ⟨c0, c1, c2, c3, c4, c5⟩ := hSw; go_simp; try with_reducible rfl
        try simp only [Act.put, List.setIfInBounds_toArray, List.set_cons_zero, List.set_cons_succ, List.getElem_toArray, List.getElem_cons_succ, List.getElem_cons_zero]
        refine wpAnyH_take (i := 3) (v := ?_) rfl (by kernel_rfl) (by kernel_rfl) (by kernel_rfl) (fun _ _ _ h => h) (Or.inl ⟨by rfl, ?_⟩) hS0 ?_
        rotate_left
        · intro w hSw; obtain ⟨c0, c1, c2, c3, c4, c5⟩ := hSw; go_simp; try with_reducible rfl
        try simp only [Act.put, List.setIfInBounds_toArray, List.set_cons_zero, List.set_cons_succ, List.getElem_toArray, List.getElem_cons_succ, List.getElem_cons_zero]
        refine wpAnyH_take (i := 4) (v := ?_) rfl (by kernel_rfl) (by kernel_rfl) (by kernel_rfl) (fun _ _ _ h => h) (Or.inl ⟨by rfl, ?_⟩) hS0 ?_
        rotate_left
        · intro w hSw; obtain ⟨c0, c1, c2, c3, c4, c5⟩ := hSw; go_simp; try with_reducible rfl
        try simp only [Act.put, List.setIfInBounds_toArray, List.set_cons_zero, List.set_cons_succ, List.getElem_toArray, List.getElem_cons_succ, List.getElem_cons_zero]
        refine wpAnyH_take (i := 5) (v := ?_) rfl (by kernel_rfl) (by kernel_rfl) (by kernel_rfl) (fun _ _ _ h => h) (Or.inl ⟨by rfl, ?_⟩) hS0 ?_
        rotate_left
        · intro w hSw; obtain ⟨c0, c1, c2, c3, c4, c5⟩ := hSw; go_simp; try with_reducible rfl
        try simp only [Act.put, List.setIfInBounds_toArray, List.set_cons_zero, List.set_cons_succ, List.getElem_toArray, List.getElem_cons_succ, List.getElem_cons_zero]
        refine wpAnyH_take (i := 6) (v := ?_) rfl (by kernel_rfl) (by kernel_rfl) (by kernel_rfl) (fun _ _ _ h => h) (Or.inl ⟨by rfl, ?_⟩) hS0 ?_
        rotate_left
        · intro w hSw; obtain ⟨c0, c1, c2, c3, c4, c5⟩ := hSw; go_simp; try with_reducible rfl
        try simp only [Act.put, List.setIfInBounds_toArray, List.set_cons_zero, List.set_cons_succ, List.getElem_toArray, List.getElem_cons_succ, List.getElem_cons_zero]
        refine wpAnyH_take (i := 7) (v := ?_) rfl (by kernel_rfl) (by kernel_rfl) (by kernel_rfl) (fun _ _ _ h => h) (Or.inl ⟨by rfl, ?_⟩) hS0 ?_
        rotate_left
        · intro w hSw; obtain ⟨c0, c1, c2, c3, c4, c5⟩ := hSw; go_simp; try with_reducible rfl
        try simp only [Act.put, List.setIfInBounds_toArray, List.set_cons_zero, List.set_cons_succ, List.getElem_toArray, List.getElem_cons_succ, List.getElem_cons_zero]
        refine wpAnyH_take (i := 8) (v := ?_) rfl (by kernel_rfl) (by kernel_rfl) (by kernel_rfl) (fun _ _ _ h => h) (Or.inl ⟨by rfl, ?_⟩) hS0 ?_
        rotate_left
        · intro w hSw; obtain ⟨c0, c1, c2, c3, c4, c5⟩ := hSw; go_simp; try with_reducible rfl
        try simp only [Act.put, List.setIfInBounds_toArray, List.set_cons_zero, List.set_cons_succ, List.getElem_toArray, List.getElem_cons_succ, List.getElem_cons_zero]
        refine wpAnyH_take (i := 9) (v := ?_) rfl (by kernel_rfl) (by kernel_rfl) (by kernel_rfl) (fun _ _ _ h => h) (Or.inl ⟨by rfl, ?_⟩) hS0 ?_
        rotate_left
        · intro w hSw; obtain ⟨c0, c1, c2, c3, c4, c5⟩ := hSw; go_simp; try with_reducible rfl
        try simp only [Act.put, List.setIfInBounds_toArray, List.set_cons_zero, List.set_cons_succ, List.getElem_toArray, List.getElem_cons_succ, List.getElem_cons_zero]
        refine wpAnyH_take (i := 10) (v := ?_) rfl (by kernel_rfl) (by kernel_rfl) (by kernel_rfl) (fun _ _ _ h => h) (Or.inl ⟨by rfl, ?_⟩) hS0 ?_
        rotate_left
        · intro w hSw; obtain ⟨c0, c1, c2, c3, c4, c5⟩ := hSw; go_simp; try with_reducible rfl
        try simp only [Act.put, List.setIfInBounds_toArray, List.set_cons_zero, List.set_cons_succ, List.getElem_toArray, List.getElem_cons_succ, List.getElem_cons_zero]
        refine wpAnyH_take (i := 11) (v := ?_) rfl (by kernel_rfl) (by kernel_rfl) (by kernel_rfl) (fun _ _ _ h => h) (Or.inl ⟨by rfl, ?_⟩) hS0 ?_
        rotate_left
        · intro w hSw; obtain ⟨c0, c1, c2, c3, c4, c5⟩ := hSw; go_simp; try with_reducible rfl
        try simp only [Act.put, List.setIfInBounds_toArray, List.set_cons_zero, List.set_cons_succ, List.getElem_toArray, List.getElem_cons_succ, List.getElem_cons_zero]
        refine wpAnyH_take (i := 12) (v := ?_) rfl (by kernel_rfl) (by kernel_rfl) (by kernel_rfl) (fun _ _ _ h => h) (Or.inl ⟨by rfl, ?_⟩) hS0 ?_
        rotate_left
        · intro w hSw; obtain ⟨c0, c1, c2, c3, c4, c5⟩ := hSw; go_simp; try with_reducible rfl
        try simp only [Act.put, List.setIfInBounds_toArray, List.set_cons_zero, List.set_cons_succ, List.getElem_toArray, List.getElem_cons_succ, List.getElem_cons_zero]
        refine wpAnyH_take (i := 13) (v := ?_) rfl (by kernel_rfl) (by kernel_rfl) (by kernel_rfl) (fun _ _ _ h => h) (Or.inl ⟨by rfl, ?_⟩) hS0 ?_
        rotate_left
        · intro w hSw; obtain ⟨c0, c1, c2, c3, c4, c5⟩ := hSw; go_simp; try with_reducible rfl
        try simp only [Act.put, List.setIfInBounds_toArray, List.set_cons_zero, List.set_cons_succ, List.getElem_toArray, List.getElem_cons_succ, List.getElem_cons_zero]
        refine wpAnyH_take (i := 14) (v := ?_) rfl (by kernel_rfl) (by kernel_rfl) (by kernel_rfl) (fun _ _ _ h => h) (Or.inl ⟨by rfl, ?_⟩) hS0 ?_
        rotate_left
        · intro w hSw; obtain ⟨c0, c1, c2, c3, c4, c5⟩ := hSw; go_simp; try with_reducible rfl
        try simp only [Act.put, List.setIfInBounds_toArray, List.set_cons_zero, List.set_cons_succ, List.getElem_toArray, List.getElem_cons_succ, List.getElem_cons_zero]
        refine wpAnyH_take (i := 15) (v := ?_) rfl (by kernel_rfl) (by kernel_rfl) (by kernel_rfl) (fun _ _ _ h => h) (Or.inl ⟨by rfl, ?_⟩) hS0 ?_
        rotate_left
        · intro w hSw; obtain ⟨c0, c1, c2, c3, c4, c5⟩ := hSw; go_simp; try with_reducible rfl
        try simp only [Act.put, List.setIfInBounds_toArray, List.set_cons_zero, List.set_cons_succ, List.getElem_toArray, List.getElem_cons_succ, List.getElem_cons_zero]
        refine wpAnyH_take (i := 16) (v := ?_) rfl (by kernel_rfl) (by kernel_rfl) (by kernel_rfl) (fun _ _ _ h => h) (Or.inl ⟨by rfl, ?_⟩) hS0 ?_
        rotate_left
        · intro w hSw; obtain ⟨c0, c1, c2, c3, c4, c5⟩ := hSw; go_simp; try with_reducible rfl
        try simp only [Act.put, List.setIfInBounds_toArray, List.set_cons_zero, List.set_cons_succ, List.getElem_toArray, List.getElem_cons_succ, List.getElem_cons_zero]
        refine wpAnyH_take (i := 17) (v := ?_) rfl (by kernel_rfl) (by kernel_rfl) (by kernel_rfl) (fun _ _ _ h => h) (Or.inl ⟨by rfl, ?_⟩) hS0 ?_
        rotate_left
        · intro w hSw; obtain ⟨c0, c1, c2, c3, c4, c5⟩ := hSw; go_simp; try with_reducible rfl
        try simp only [Act.put, List.setIfInBounds_toArray, List.set_cons_zero, List.set_cons_succ, List.getElem_toArray, List.getElem_cons_succ, List.getElem_cons_zero]
        refine wpAnyH_take (i := 18) (v := ?_) rfl (by kernel_rfl) (by kernel_rfl) (by kernel_rfl) (fun _ _ _ h => h) (Or.inl ⟨by rfl, ?_⟩) hS0 ?_
        rotate_left
        · intro w hSw; obtain ⟨c0, c1, c2, c3, c4, c5⟩ := hSw; go_simp; try with_reducible rfl
        try simp only [Act.put, List.setIfInBounds_toArray, List.set_cons_zero, List.set_cons_succ, List.getElem_toArray, List.getElem_cons_succ, List.getElem_cons_zero]
        refine wpAnyH_take (i := 19) (v := ?_) rfl (by kernel_rfl) (by kernel_rfl) (by kernel_rfl) (fun _ _ _ h => h) (Or.inl ⟨by rfl, ?_⟩) hS0 ?_
        rotate_left
        · intro w hSw; obtain ⟨c0, c1, c2, c3, c4, c5⟩ := hSw; go_simp; try with_reducible rfl
        try simp only [Act.put, List.setIfInBounds_toArray, List.set_cons_zero, List.set_cons_succ, List.getElem_toArray, List.getElem_cons_succ, List.getElem_cons_zero]
        refine wpAnyH_take (i := 20) (v := ?_) rfl (by kernel_rfl) (by kernel_rfl) (by kernel_rfl) (fun _ _ _ h => h) (Or.inl ⟨by rfl, ?_⟩) hS0 ?_
        rotate_left
        · intro w hSw; obtain ⟨c0, c1, c2, c3, c4, c5⟩ := hSw; go_simp; try with_reducible rfl
        try simp only [Act.put, List.setIfInBounds_toArray, List.set_cons_zero, List.set_cons_succ, List.getElem_toArray, List.getElem_cons_succ, List.getElem_cons_zero]
        refine wpAnyH_take (i := 21) (v := undef) rfl (by kernel_rfl) (by kernel_rfl) (by kernel_rfl) (fun _ _ _ h => h) (Or.inr ⟨by rfl, rfl⟩) hS0 ?_
        try simp only [Act.put, List.setIfInBounds_toArray, List.set_cons_zero, List.set_cons_succ, List.getElem_toArray, List.getElem_cons_succ, List.getElem_cons_zero]
        refine wpAnyH_take (i := 22) (v := undef) rfl (by kernel_rfl) (by kernel_rfl) (by kernel_rfl) (fun _ _ _ h => h) (Or.inr ⟨by rfl, rfl⟩) hS0 ?_
        try simp only [Act.put, List.setIfInBounds_toArray, List.set_cons_zero, List.set_cons_succ, List.getElem_toArray, List.getElem_cons_succ, List.getElem_cons_zero]
        refine wpAnyH_take (i := 23) (v := undef) rfl (by kernel_rfl) (by kernel_rfl) (by kernel_rfl) (fun _ _ _ h => h) (Or.inr ⟨by rfl, rfl⟩) hS0 ?_
        try simp only [Act.put, List.setIfInBounds_toArray, List.set_cons_zero, List.set_cons_succ, List.getElem_toArray, List.getElem_cons_succ, List.getElem_cons_zero]
        refine wpAnyH_take (i := 24) (v := undef) rfl (by kernel_rfl) (by kernel_rfl) (by kernel_rfl) (fun _ _ _ h => h) (Or.inr ⟨by rfl, rfl⟩) hS0 ?_
        try simp only [Act.put, List.setIfInBounds_toArray, List.set_cons_zero, List.set_cons_succ, List.getElem_toArray, List.getElem_cons_succ, List.getElem_cons_zero]
        refine wpAnyH_take (i := 25) (v := undef) rfl (by kernel_rfl) (by kernel_rfl) (by kernel_rfl) (fun _ _ _ h => h) (Or.inr ⟨by rfl, rfl⟩) hS0 ?_
        try simp only [Act.put, List.setIfInBounds_toArray, List.set_cons_zero, List.set_cons_succ, List.getElem_toArray, List.getElem_cons_succ, List.getElem_cons_zero]
        refine wpAnyH_take (i := 26) (v := undef) rfl (by kernel_rfl) (by kernel_rfl) (by kernel_rfl) (fun _ _ _ h => h) (Or.inr ⟨by rfl, rfl⟩) hS0 ?_
        try simp only [Act.put, List.setIfInBounds_toArray, List.set_cons_zero, List.set_cons_succ, List.getElem_toArray, List.getElem_cons_succ, List.getElem_cons_zero]
        refine wpAnyH_take (i := 27) (v := undef) rfl (by kernel_rfl) (by kernel_rfl) (by kernel_rfl) (fun _ _ _ h => h) (Or.inr ⟨by rfl, rfl⟩) hS0 ?_
        try simp only [Act.put, List.setIfInBounds_toArray, List.set_cons_zero, List.set_cons_succ, List.getElem_toArray, List.getElem_cons_succ, List.getElem_cons_zero]
        refine wpAnyH_take (i := 28) (v := undef) rfl (by kernel_rfl) (by kernel_rfl) (by kernel_rfl) (fun _ _ _ h => h) (Or.inr ⟨by rfl, rfl⟩) hS0 ?_
        try simp only [Act.put, List.setIfInBounds_toArray, List.set_cons_zero, List.set_cons_succ, List.getElem_toArray, List.getElem_cons_succ, List.getElem_cons_zero]
        refine wpAnyH_take (i := 29) (v := undef) rfl (by kernel_rfl) (by kernel_rfl) (by kernel_rfl) (fun _ _ _ h => h) (Or.inr ⟨by rfl, rfl⟩) hS0 ?_
        try simp only [Act.put, List.setIfInBounds_toArray, List.set_cons_zero, List.set_cons_succ, List.getElem_toArray, List.getElem_cons_succ, List.getElem_cons_zero]
        refine wpAnyH_take (i := 30) (v := undef) rfl (by kernel_rfl) (by kernel_rfl) (by kernel_rfl) (fun _ _ _ h => h) (Or.inr ⟨by rfl, rfl⟩) hS0 ?_
        try simp only [Act.put, List.setIfInBounds_toArray, List.set_cons_zero, List.set_cons_succ, List.getElem_toArray, List.getElem_cons_succ, List.getElem_cons_zero]
        refine wpAnyH_take (i := 31) (v := undef) rfl (by kernel_rfl) (by kernel_rfl) (by kernel_rfl) (fun _ _ _ h => h) (Or.inr ⟨by rfl, rfl⟩) hS0 ?_
        try simp only [Act.put, List.setIfInBounds_toArray, List.set_cons_zero, List.set_cons_succ, List.getElem_toArray, List.getElem_cons_succ, List.getElem_cons_zero]
        refine wpAnyH_take (i := 32) (v := ?_) rfl (by kernel_rfl) (by kernel_rfl) (by kernel_rfl) (fun _ _ _ h => h) (Or.inl ⟨by rfl, ?_⟩) hS0 ?_
        rotate_left
        · intro w hSw; obtain ⟨c0, c1, c2, c3, c4, c5⟩ := hSw; go_simp; try with_reducible rfl
        try simp only [Act.put, List.setIfInBounds_toArray, List.set_cons_zero, List.set_cons_succ, List.getElem_toArray, List.getElem_cons_succ, List.getElem_cons_zero]
        refine wpAnyH_take (i := 33) (v := ?_) rfl (by kernel_rfl) (by kernel_rfl) (by kernel_rfl) (fun _ _ _ h => h) (Or.inl ⟨by rfl, ?_⟩) hS0 ?_
        rotate_left
        · intro w hSw; obtain ⟨c0, c1, c2, c3, c4, c5⟩ := hSw; go_simp; try with_reducible rfl
        try simp only [Act.put, List.setIfInBounds_toArray, List.set_cons_zero, List.set_cons_succ, List.getElem_toArray, List.getElem_cons_succ, List.getElem_cons_zero]
        refine wpAnyH_take (i := 34) (v := ?_) rfl (by kernel_rfl) (by kernel_rfl) (by kernel_rfl) (fun _ _ _ h => h) (Or.inl ⟨by rfl, ?_⟩) hS0 ?_
        rotate_left
        · intro w hSw; obtain ⟨c0, c1, c2, c3, c4, c5⟩ := hSw; go_simp; try with_reducible rfl
        try simp only [Act.put, List.setIfInBounds_toArray, List.set_cons_zero, List.set_cons_succ, List.getElem_toArray, List.getElem_cons_succ, List.getElem_cons_zero]
        refine wpAnyH_take (i := 35) (v := ?_) rfl (by kernel_rfl) (by kernel_rfl) (by kernel_rfl) (fun _ _ _ h => h) (Or.inl ⟨by rfl, ?_⟩) hS0 ?_
        rotate_left
        · intro w hSw; obtain ⟨c0, c1, c2, c3, c4, c5⟩ := hSw; go_simp; try with_reducible rfl
        try simp only [Act.put, List.setIfInBounds_toArray, List.set_cons_zero, List.set_cons_succ, List.getElem_toArray, List.getElem_cons_succ, List.getElem_cons_zero]
        refine wpAnyH_take (i := 36) (v := ?_) rfl (by kernel_rfl) (by kernel_rfl) (by kernel_rfl) (fun _ _ _ h => h) (Or.inl ⟨by rfl, ?_⟩) hS0 ?_
        rotate_left
        · intro w hSw; obtain ⟨c0, c1, c2, c3, c4, c5⟩ := hSw; go_simp; try with_reducible rfl
        try simp only [Act.put, List.setIfInBounds_toArray, List.set_cons_zero, List.set_cons_succ, List.getElem_toArray, List.getElem_cons_succ, List.getElem_cons_zero]
        refine wpAnyH_take (i := 37) (v := ?_) rfl (by kernel_rfl) (by kernel_rfl) (by kernel_rfl) (fun _ _ _ h => h) (Or.inl ⟨by rfl, ?_⟩) hS0 ?_
        rotate_left
        · intro w hSw; obtain ⟨c0, c1, c2, c3, c4, c5⟩ := hSw; go_simp; try with_reducible rfl
        try simp only [Act.put, List.setIfInBounds_toArray, List.set_cons_zero, List.set_cons_succ, List.getElem_toArray, List.getElem_cons_succ, List.getElem_cons_zero]
        refine wpAnyH_take (i := 38) (v := ?_) rfl (by kernel_rfl) (by kernel_rfl) (by kernel_rfl) (fun _ _ _ h => h) (Or.inl ⟨by rfl, ?_⟩) hS0 ?_
        rotate_left
        · intro w hSw; obtain ⟨c0, c1, c2, c3, c4, c5⟩ := hSw; go_simp; try with_reducible rfl
        try simp only [Act.put, List.setIfInBounds_toArray, List.set_cons_zero, List.set_cons_succ, List.getElem_toArray, List.getElem_cons_succ, List.getElem_cons_zero]
        refine wpAnyH_take (i := 39) (v := ?_) rfl (by kernel_rfl) (by kernel_rfl) (by kernel_rfl) (fun _ _ _ h => h) (Or.inl ⟨by rfl, ?_⟩) hS0 ?_
        rotate_left
        · intro w hSw; obtain ⟨c0, c1, c2, c3, c4, c5⟩ := hSw; go_simp; try with_reducible rfl
        try simp only [Act.put, List.setIfInBounds_toArray, List.set_cons_zero, List.set_cons_succ, List.getElem_toArray, List.getElem_cons_succ, List.getElem_cons_zero]
        refine wpAnyH_take (i := 40) (v := ?_) rfl (by kernel_rfl) (by kernel_rfl) (by kernel_rfl) (fun _ _ _ h => h) (Or.inl ⟨by rfl, ?_⟩) hS0 ?_
        rotate_left
        · intro w hSw; obtain ⟨c0, c1, c2, c3, c4, c5⟩ := hSw; go_simp; try with_reducible rfl
        try simp only [Act.put, List.setIfInBounds_toArray, List.set_cons_zero, List.set_cons_succ, List.getElem_toArray, List.getElem_cons_succ, List.getElem_cons_zero]
        refine wpAnyH_take (i := 41) (v := ?_) rfl (by kernel_rfl) (by kernel_rfl) (by kernel_rfl) (fun _ _ _ h => h) (Or.inl ⟨by rfl, ?_⟩) hS0 ?_
        rotate_left
        · intro w hSw; obtain ⟨c0, c1, c2, c3, c4, c5⟩ := hSw; go_simp; try with_reducible rfl
        try simp only [Act.put, List.setIfInBounds_toArray, List.set_cons_zero, List.set_cons_succ, List.getElem_toArray, List.getElem_cons_succ, List.getElem_cons_zero]
        refine wpAnyH_take (i := 42) (v := ?_) rfl (by kernel_rfl) (by kernel_rfl) (by kernel_rfl) (fun _ _ _ h => h) (Or.inl ⟨by rfl, ?_⟩) hS0 ?_
        rotate_left
        · intro w hSw; obtain ⟨c0, c1, c2, c3, c4, c5⟩ := hSw; go_simp; try with_reducible rfl
        try simp only [Act.put, List.setIfInBounds_toArray, List.set_cons_zero, List.set_cons_succ, List.getElem_toArray, List.getElem_cons_succ, List.getElem_cons_zero]
        refine wpAnyH_take (i := 43) (v := ?_) rfl (by kernel_rfl) (by kernel_rfl) (by kernel_rfl) (fun _ _ _ h => h) (Or.inl ⟨by rfl, ?_⟩) hS0 ?_
        rotate_left
        · intro w hSw; obtain ⟨c0, c1, c2, c3, c4, c5⟩ := hSw; go_simp; try with_reducible rfl
        try simp only [Act.put, List.setIfInBounds_toArray, List.set_cons_zero, List.set_cons_succ, List.getElem_toArray, List.getElem_cons_succ, List.getElem_cons_zero]
        refine wpAnyH_take (i := 46) (v := ?_) rfl (by kernel_rfl) (by kernel_rfl) (by kernel_rfl) (fun _ _ _ h => h) (Or.inl ⟨by rfl, ?_⟩) hS0 ?_
        rotate_left
        · intro w hSw; obtain ⟨c0, c1, c2, c3, c4, c5⟩ := hSw; go_simp; try with_reducible rfl
        try simp only [Act.put, List.setIfInBounds_toArray, List.set_cons_zero, List.set_cons_succ, List.getElem_toArray, List.getElem_cons_succ, List.getElem_cons_zero]
        refine wpAnyH_take (i := 47) (v := ?_) rfl (by kernel_rfl) (by kernel_rfl) (by kernel_rfl) (fun _ _ _ h => h) (Or.inl ⟨by rfl, ?_⟩) hS0 ?_
        rotate_left
        · intro w hSw; obtain ⟨c0, c1, c2, c3, c4, c5⟩ := hSw; go_simp; try with_reducible rfl
        try simp only [Act.put, List.setIfInBounds_toArray, List.set_cons_zero, List.set_cons_succ, List.getElem_toArray, List.getElem_cons_succ, List.getElem_cons_zero]
        refine wpAnyH_take (i := 48) (v := ?_) rfl (by kernel_rfl) (by kernel_rfl) (by kernel_rfl) (fun _ _ _ h => h) (Or.inl ⟨by rfl, ?_⟩) hS0 ?_
        rotate_left
        · intro w hSw; obtain ⟨c0, c1, c2, c3, c4, c5⟩ := hSw; go_simp; try with_reducible rfl
        try simp only [Act.put, List.setIfInBounds_toArray, List.set_cons_zero, List.set_cons_succ, List.getElem_toArray, List.getElem_cons_succ, List.getElem_cons_zero]
        refine wpAnyH_take (i := 49) (v := ?_) rfl (by kernel_rfl) (by kernel_rfl) (by kernel_rfl) (fun _ _ _ h => h) (Or.inl ⟨by rfl, ?_⟩) hS0 ?_
        rotate_left
        · intro w hSw; obtain ⟨c0, c1, c2, c3, c4, c5⟩ := hSw; go_simp; try with_reducible rfl
        try simp only [Act.put, List.setIfInBounds_toArray, List.set_cons_zero, List.set_cons_succ, List.getElem_toArray, List.getElem_cons_succ, List.getElem_cons_zero]
        refine wpAnyH_take (i := 50) (v := ?_) rfl (by kernel_rfl) (by kernel_rfl) (by kernel_rfl) (fun _ _ _ h => h) (Or.inl ⟨by rfl, ?_⟩) hS0 ?_
        rotate_left
        · intro w hSw; obtain ⟨c0, c1, c2, c3, c4, c5⟩ := hSw; go_simp; try with_reducible rfl
        try simp only [Act.put, List.setIfInBounds_toArray, List.set_cons_zero, List.set_cons_succ, List.getElem_toArray, List.getElem_cons_succ, List.getElem_cons_zero]
        refine wpAnyH_take (i := 51) (v := ?_) rfl (by kernel_rfl) (by kernel_rfl) (by kernel_rfl) (fun _ _ _ h => h) (Or.inl ⟨by rfl, ?_⟩) hS0 ?_
        rotate_left
        · intro w hSw; obtain ⟨c0, c1, c2, c3, c4, c5⟩ := hSw; go_simp; try with_reducible rfl
        try simp only [Act.put, List.setIfInBounds_toArray, List.set_cons_zero, List.set_cons_succ, List.getElem_toArray, List.getElem_cons_succ, List.getElem_cons_zero]
        refine wpAnyH_take (i := 52) (v := ?_) rfl (by kernel_rfl) (by kernel_rfl) (by kernel_rfl) (fun _ _ _ h => h) (Or.inl ⟨by rfl, ?_⟩) hS0 ?_
        rotate_left
        · intro w hSw; obtain ⟨c0, c1, c2, c3, c4, c5⟩ := hSw; go_simp; try with_reducible rfl
        try simp only [Act.put, List.setIfInBounds_toArray, List.set_cons_zero, List.set_cons_succ, List.getElem_toArray, List.getElem_cons_succ, List.getElem_cons_zero]
        refine wpAnyH_ready (rs := [44]) (by kernel_rfl) (by simp) ?_
        refine AllReadyH.cons rfl (fun K hK => ?_) AllReadyH.nil
        go_simp
        (refine (put_any r _ hrr).mono ?_; rintro e w5 ⟨u5, rfl, hown5, hb5⟩; obtain ⟨o5, c5, rfl⟩ := owns_slice hown5; have hB5 : Below wx.heap.size wx w5 := bel_then (Below.refl _ _).drew hb5; have hc5 := HS1.out w5 hB5; have hq5 := conv_row (bs := put r) rfl (Row.owned hown5); rw [← HS.out.2.1] at hq5)
        refine hK.out _ _ hc5 (fun _ => ?_)
        clear hK K
        try simp only [Act.put, List.setIfInBounds_toArray, List.set_cons_zero, List.set_cons_succ, List.getElem_toArray, List.getElem_cons_succ, List.getElem_cons_zero]
        refine wpAnyH_ready (rs := [45]) (by kernel_rfl) (by simp) ?_
        refine AllReadyH.cons rfl (fun K hK => ?_) AllReadyH.nil
        go_simp
        skip
        refine hK.out _ _ hc5 (fun _ => ?_)
        clear hK K
        try simp only [Act.put, List.setIfInBounds_toArray, List.set_cons_zero, List.set_cons_succ, List.getElem_toArray, List.getElem_cons_succ, List.getElem_cons_zero]
        refine wpAnyH_take (i := 53) (v := ?_) rfl (by kernel_rfl) (by kernel_rfl) (by kernel_rfl) (fun _ _ _ h => h) (Or.inl ⟨by rfl, ?_⟩) hc5 ?_
        rotate_left
        · intro w hSw; obtain ⟨c0, c1, c2, c3, c4, c5⟩ := hSw; go_simp; try with_reducible rfl
        try simp only [Act.put, List.setIfInBounds_toArray, List.set_cons_zero, List.set_cons_succ, List.getElem_toArray, List.getElem_cons_succ, List.getElem_cons_zero]
        refine wpAnyH_take (i := 54) (v := ?_) rfl (by kernel_rfl) (by kernel_rfl) (by kernel_rfl) (fun _ _ _ h => h) (Or.inl ⟨by rfl, ?_⟩) hc5 ?_
        rotate_left
        · intro w hSw; obtain ⟨c0, c1, c2, c3, c4, c5⟩ := hSw; go_simp; try with_reducible rfl
        try simp only [Act.put, List.setIfInBounds_toArray, List.set_cons_zero, List.set_cons_succ, List.getElem_toArray, List.getElem_cons_succ, List.getElem_cons_zero]
        refine wpAnyH_take (i := 55) (v := ?_) rfl (by kernel_rfl) (by kernel_rfl) (by kernel_rfl) (fun _ _ _ h => h) (Or.inl ⟨by rfl, ?_⟩) hc5 ?_
        rotate_left
        · intro w hSw; obtain ⟨c0, c1, c2, c3, c4, c5⟩ := hSw; go_simp; try with_reducible rfl
        try simp only [Act.put, List.setIfInBounds_toArray, List.set_cons_zero, List.set_cons_succ, List.getElem_toArray, List.getElem_cons_succ, List.getElem_cons_zero]
        refine wpAnyH_take (i := 56) (v := ?_) rfl (by kernel_rfl) (by kernel_rfl) (by kernel_rfl) (fun _ _ _ h => h) (Or.inl ⟨by rfl, ?_⟩) hc5 ?_
        rotate_left
        · intro w hSw; obtain ⟨c0, c1, c2, c3, c4, c5⟩ := hSw; go_simp; try with_reducible rfl
        try simp only [Act.put, List.setIfInBounds_toArray, List.set_cons_zero, List.set_cons_succ, List.getElem_toArray, List.getElem_cons_succ, List.getElem_cons_zero]
        refine wpAnyH_done (by kernel_rfl) ?_ _
        go_wp2_with fail
        go_roundw
        case rel =>
          refine ⟨k + 1, by omega, by go_num, int_eq ?_, ?_, ?_⟩
          · rw [HK.out.2.2.1]; simp
          · exact HK.out.1.trans ((bel_then hBx hB5).mono HK.out.1.size)
          · exact HK.out.2.1.trans ((bel_then hBx hB5).mono HK.out.2.1.size)
        case measure => simp [intOf] <;> omega
    · have hkn : k = L.length := by omega
      subst hkn
      rw [HP.out.2, Nat.zero_add]
      go_wp2_with (go_at_call 9; refine (told_any _).mono ?_; rintro e w4 ⟨rfl, hb4⟩)
      go_ret
      exact ⟨rfl, hbel.trans (hb4.mono hbel.size)⟩
end Go.Proofs.Ytjdgfhgpbhjcpaa
