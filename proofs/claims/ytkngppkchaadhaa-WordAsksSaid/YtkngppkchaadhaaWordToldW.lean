/- word: the law's own examples. -/
import Derived.Test.YtkngppkchaadhaaCls
import Derived.Laws.StructEq
set_option linter.unusedVariables false
set_option linter.unusedSimpArgs false
namespace Go.Proofs.Ytkngppkchaadhaa
open Go.RowKit De Wd

namespace De
/-- plain letters as items -/
def asc : Nat → List Int → List (Nat × It)
  | _, [] => []
  | a, c :: t => (a, ⟨c, 1, false, false, false⟩) :: asc (a + 1) t
theorem all_asc : ∀ (l : List Int) (a : Nat), (∀ x ∈ l, x < 128) → all a l = asc a l := by
  intro l
  induction l with
  | nil => intro a _; rw [all_nil]; rfl
  | cons c t ih =>
    intro a h
    have h1 : one (c :: t) = ⟨c, 1, false, false, false⟩ := one1 (h c (by simp))
    rw [all_cons a _ (by simp), h1]
    show (a, _) :: all (a + 1) t = _
    rw [ih _ fun x hx => h x (by simp [hx])]
    rfl
end De
namespace Wd
theorem asc_good : ∀ (l : List Int) (a : Nat), ∀ p ∈ asc a l, p.2.bad = false ∧ p.2.r ∈ l := by
  intro l
  induction l with
  | nil => intro a p hp; simp [asc] at hp
  | cons c t ih =>
    intro a p hp
    simp only [asc, List.mem_cons] at hp
    rcases hp with rfl | hp
    · simp
    · have := ih _ p hp
      exact ⟨this.1, by simp [this.2]⟩
theorem fb_asc {l : List Int} (h : ∀ x ∈ l, x < 128) : fb l = l.length := by
  unfold fb
  rw [all_asc l 0 h]
  have : (asc 0 l).find? (·.2.bad) = none := by
    rw [List.find?_eq_none]; intro p hp; simp [(asc_good l 0 p hp).1]
  rw [this]
def scF : Nat → Nat → List Int → List (Nat × Wt) × Option Nat
  | 0, _, _ => ([], none)
  | _ + 1, _, [] => ([], none)
  | n + 1, a, c :: t => match wd (c :: t) with
    | none => ([], some a)
    | some x => (if x.k = 0 then (scF n (a + x.z) ((c :: t).drop x.z)).1 else (a, x) :: (scF n (a + x.z) ((c :: t).drop x.z)).1, (scF n (a + x.z) ((c :: t).drop x.z)).2)
theorem scF_eq : ∀ (n a : Nat) (l : List Int), l.length ≤ n → scF n a l = sc a l := by
  intro n
  induction n with
  | zero => intro a l h; have : l = [] := List.eq_nil_of_length_eq_zero (by omega); subst this; rw [sc_nil]; rfl
  | succ n ih =>
    intro a l h
    cases l with
    | nil => rw [sc_nil]; rfl
    | cons c t =>
      simp only [scF]
      cases hw : wd (c :: t) with
      | none => rw [sc_none (by simp) hw]
      | some x =>
        have h1 := (wd_ok hw).1
        rw [sc_cons hw]
        simp only
        rw [ih _ _ (by rw [List.length_drop]; omega)]
theorem rs_asc {l : List Int} (h : ∀ x ∈ l, x < 128) (hl : l.length ≤ 4000) : rs l = match (scF l.length 0 l).2 with | some a => .bad 2 (min a l.length) | none => .ok (scF l.length 0 l).1 := by
  unfold rs
  rw [if_neg (by omega), fb_asc h, scF_eq _ _ _ (Nat.le_refl _)]
  cases (sc 0 l).2 with
  | some a => rfl
  | none => simp
theorem rs_asc_ok {l : List Int} {W : List (Nat × Wt)} (h : ∀ x ∈ l, x < 128) (hl : l.length ≤ 4000) (hW : scF l.length 0 l = (W, none)) : rs l = .ok W := by
  rw [rs_asc h hl, hW]
theorem rs_asc_bad {l : List Int} {W : List (Nat × Wt)} {a : Nat} (h : ∀ x ∈ l, x < 128) (hl : l.length ≤ 4000) (hW : scF l.length 0 l = (W, some a)) (ha : a ≤ l.length) : rs l = .bad 2 a := by
  rw [rs_asc h hl, hW]; simp only; rw [Nat.min_eq_left ha]
theorem t_1 : rs [116, 111, 107, 32, 97, 32, 47, 120, 92, 47, 121, 47, 32, 35, 32, 110, 111, 10] = .ok [(0, ⟨1, 0, 3, 3⟩), (4, ⟨1, 0, 1, 1⟩), (6, ⟨4, 1, 4, 6⟩), (17, ⟨5, 0, 0, 1⟩)] :=
  rs_asc_ok (by decide) (by decide) rfl
theorem t_2 : rs [97, 32, 63] = .bad 2 2 := rs_asc_bad (W := [(0, ⟨1, 0, 1, 1⟩)]) (by decide) (by decide) rfl (by decide)
theorem t_3 : rs [97, 32, 47, 120] = .bad 2 2 := rs_asc_bad (W := [(0, ⟨1, 0, 1, 1⟩)]) (by decide) (by decide) rfl (by decide)
theorem t_4 : cls (asc 0 [97, 45, 99]) 3 = .ok [(97, 99)] := rfl
theorem t_5 : cls (asc 0 [99, 45, 97]) 3 = .bad 2 := rfl
theorem pl_asc {l : List Int} (h : ∀ x ∈ l, 0 ≤ x ∧ x < 128 ∧ x ≠ 92) : Pl (all 0 l) := by
  rw [all_asc l 0 fun x hx => (h x hx).2.1]
  intro p hp
  have := asc_good l 0 p hp
  exact ⟨this.1, (h _ this.2).1, (h _ this.2).2.1, (h _ this.2).2.2⟩
end Wd
theorem eqlW (a b : Int) (t : ByteArray) (w : World) : (binOp .eql 36 (.agg #[.int .i64 a, .string t, .int .i64 b]) (.agg #[.int .i64 a, .string t, .int .i64 b])).run Try.prog w = .ok (.bool true) w := by
  have u2 := Try.underlying3
  have u3 := Try.underlying9
  have hS : Try.prog.underlying 36 = some (.struct (Try.prog.fieldsOf 36)) := by kernel_rfl
  have hp : Try.prog.stoodInHeld 36 = false := by kernel_rfl
  rw [run_eql_struct, show (10000 : Nat) = 9999 + 1 from rfl, run_equalIn_agg w 9999 36 _ _ hS hp]
  simp only [Program.fieldsOf, Try.underlying36]
  go_simp
theorem guardW (op : BinOp) (x y : Operand) (a b : Int) (t : ByteArray) (w : World) : (eqGuard op 36 x y (.agg #[.int .i64 a, .string t, .int .i64 b]) (.agg #[.int .i64 a, .string t, .int .i64 b])).run Try.prog w = .ok () w :=
  run_eqGuard_agg w op _ x y _ _ (by kernel_rfl)
theorem eqlRw (a b : Int) (w : World) : (binOp .eql 43 (.agg #[.int .i32 a, .int .i32 b]) (.agg #[.int .i32 a, .int .i32 b])).run Try.prog w = .ok (.bool true) w := by
  have u2 := Try.underlying21
  have hS : Try.prog.underlying 43 = some (.struct (Try.prog.fieldsOf 43)) := by kernel_rfl
  have hp : Try.prog.stoodInHeld 43 = false := by kernel_rfl
  rw [run_eql_struct, show (10000 : Nat) = 9999 + 1 from rfl, run_equalIn_agg w 9999 43 _ _ hS hp]
  simp only [Program.fieldsOf, Try.underlying43]
  go_simp
theorem guardRw (op : BinOp) (x y : Operand) (a b : Int) (w : World) : (eqGuard op 43 x y (.agg #[.int .i32 a, .int .i32 b]) (.agg #[.int .i32 a, .int .i32 b])).run Try.prog w = .ok () w :=
  run_eqGuard_agg w op _ x y _ _ (by kernel_rfl)
/-- the cells of a row of n that is not empty -/
theorem Row.cells {w : World} {v : Value} {n : Nat} {cs : List Value} (h : Row w v n cs) (hn : 0 < n) : ∃ b off cap, v = .slice (some ⟨b, off, none⟩) n cap ∧ b < w.heap.size ∧ ∀ j u, cs[j]? = some u → w.cell? ⟨b, off + j, none⟩ = some u := by
  obtain ⟨o, cap, rfl, h1, h2, h3⟩ := h
  rcases h3 with ⟨h0, _⟩ | ⟨b, off, rfl, hb, hc⟩
  · omega
  · exact ⟨b, off, cap, rfl, hb, hc⟩

set_option maxHeartbeats 4000000 in
set_option maxRecDepth 1000000 in
theorem told_any (w : World) : Calls Try.prog 7 #[] w fun e w' => e = .returned (.bool true) ∧ Below w.heap.size w w' := by
  have h1 := fun w => wordAll_any ⟨#[116, 111, 107, 32, 97, 32, 47, 120, 92, 47, 121, 47, 32, 35, 32, 110, 111, 10]⟩ w (by decide)
  have h2 := fun w => wordAll_any ⟨#[97, 32, 63]⟩ w (by decide)
  have h3 := fun w => wordAll_any ⟨#[97, 32, 47, 120]⟩ w (by decide)
  have h4 := fun w => class_any ⟨#[97, 45, 99]⟩ w (by decide) (pl_asc (by decide))
  have h5 := fun w => class_any ⟨#[99, 45, 97]⟩ w (by decide) (pl_asc (by decide))
  unfold AllPost at h1 h2 h3
  unfold ClsPost at h4 h5
  rw [show sb ⟨#[116, 111, 107, 32, 97, 32, 47, 120, 92, 47, 121, 47, 32, 35, 32, 110, 111, 10]⟩ = [116, 111, 107, 32, 97, 32, 47, 120, 92, 47, 121, 47, 32, 35, 32, 110, 111, 10] from rfl, t_1] at h1
  rw [show sb ⟨#[97, 32, 63]⟩ = [97, 32, 63] from rfl, t_2] at h2
  rw [show sb ⟨#[97, 32, 47, 120]⟩ = [97, 32, 47, 120] from rfl, t_3] at h3
  rw [show sb ⟨#[97, 45, 99]⟩ = [97, 45, 99] from rfl, all_asc _ _ (by decide), show (⟨#[97, 45, 99]⟩ : ByteArray).size = 3 from rfl, t_4] at h4
  rw [show sb ⟨#[99, 45, 97]⟩ = [99, 45, 97] from rfl, all_asc _ _ (by decide), show (⟨#[99, 45, 97]⟩ : ByteArray).size = 3 from rfl, t_5] at h5
  have HH := Lib.hid (And.intro h1 (And.intro h2 (And.intro h3 (And.intro h4 h5))))
  clear h1 h2 h3 h4 h5
  have q1 := eqlW
  have q2 := guardW
  have q3 := eqlRw
  have q4 := guardRw
  go_enter Try.func7, Try.ntmps7
  go_wp2_with fail
  refine (HH.out.1 _).mono ?_
  rintro e w1 ⟨u1, rfl, hown1, hb1⟩
  obtain ⟨b1, f1, k1, rfl, hbl1, hc1⟩ := (Row.owned hown1).cells (by decide)
  go_wp2_with fail
  refine (HH.out.2.1 _).mono ?_
  rintro e w2 ⟨rfl, hb2⟩
  go_wp2_with fail
  refine (HH.out.2.2.1 _).mono ?_
  rintro e w3 ⟨rfl, hb3⟩
  go_wp2_with fail
  refine (HH.out.2.2.2.1 _).mono ?_
  rintro e w4 ⟨u4, rfl, hown4, hb4⟩
  obtain ⟨b4, f4, k4, rfl, hbl4, hc4⟩ := (Row.owned hown4).cells (by decide)
  go_wp2_with fail
  refine (HH.out.2.2.2.2 _).mono ?_
  rintro e w5 ⟨rfl, hb5⟩
  have hB2 : Below w1.heap.size w1 w5 := bel_then (bel_then (bel_then hb2 hb3) hb4) hb5
  have hB5 : Below w.heap.size w w5 := bel_then hb1 hB2
  have a0 := hc1 0 (.int .i64 1) rfl
  have a1 := hc1 1 (.string ⟨#[116, 111, 107]⟩) rfl
  have a2 := hc1 2 (.int .i64 0) rfl
  have a6 := hc1 6 (.int .i64 4) rfl
  have a7 := hc1 7 (.string ⟨#[120, 92, 47, 121]⟩) rfl
  have a8 := hc1 8 (.int .i64 6) rfl
  have a9 := hc1 9 (.int .i64 5) rfl
  rw [← hB2.cell hbl1] at a0 a1 a2 a6 a7 a8 a9
  have e0 := hc4 0 (.int .i32 97) rfl
  have e1 := hc4 1 (.int .i32 99) rfl
  rw [← hb5.cell hbl4] at e0 e1
  simp only [Nat.add_zero] at a0 e0
  clear hc1 hc4 hown1 hown4 hb1 hb2 hb3 hb4 hb5 hB2 HH
  go_wp2
  go_ret
  exact ⟨rfl, hB5⟩
end Go.Proofs.Ytkngppkchaadhaa
