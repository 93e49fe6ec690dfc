/- The walk of ForestWraps. -/
import Derived.Test.YtjeploipaejepaaForestLaw4
import Derived.Test.YtjeploipaejepaaForestWraps
set_option linter.unusedVariables false
set_option linter.unusedSimpArgs false
namespace Go.Proofs.Ytjeploipaejepaa
open Go.RowKit Fo

theorem wpList_wanted {P : Program} {ops : Array Oper} {rest : List Oper} {o : Oper} {a : Act} {w : World} {Q : Exit → Act → World → Prop} (hg : Region.wanted o (yielded ops a.tmps) = true)
    (h : ∀ K : Act → World → Prop, (∀ a w, wpList P ops Q rest a w → K a w) → o.wp P a w K Q) : wpList P ops Q (o :: rest) a w :=
  wpList_step fun K hK => by rw [if_pos hg]; exact h K hK
/-- an append of any row onto an owned one, guarded or not -/
theorem wpListW_append_row {P : Program} (w : World) {ops : Array Oper} {rest : List Oper} {o : Oper} {a : Act} {Q : Exit → Act → World → Prop} (hgd : Region.wanted o (yielded ops a.tmps) = true) (s x : Operand) (t : TypeId)
    (ho : o.op = .call { callee := .builtin .append, args := #[s, x], argTypes := #[t, t] })
    (base : Nat) (e : TypeId) (i : TypeInfo) (z : Value) (size bytes : Nat) (ht : P.underlying t = some (.slice e)) (hi : P.info? e = some i) (hz : i.zero = some z)
    (hsize : i.size = size) (hby : i.bytes = bytes) (hzs : z.cells.size = size) (hsz : 0 < size)
    (v : Value) (n : Nat) (xs : List Value) (hs : a.eval s = v) (hown : w.ownsRow base e size v n xs)
    (u : Value) (m : Nat) (news : List Value) (hx : a.eval x = u) (hrow : Row w u m news) (hl : news.length = m * size) (h1 : ∀ u ∈ news, u.oneCell' = true)
    (h63 : n + m ≤ maxLen) (hbytes : (n + m) * bytes ≤ 140737488355328) (hbase : base ≤ w.heap.size)
    (h : ∀ v' w', w'.ownsRow base e size v' (n + m) (xs ++ news) → w.grownBy w' v.ownBlock → wpList P ops Q rest (a.put o.dst v') w') : wpList P ops Q (o :: rest) a w :=
  wpList_wanted hgd fun _ hK => wp_append_row w s x t ho base e i z size bytes ht hi hz hsize hby hzs hsz v n xs hs hown u m news hx hrow hl h1 h63 hbytes hbase fun v' w' h2 h3 => hK _ _ (h v' w' h2 h3)

theorem flat_one (l : List (Int × Int)) : ∀ u ∈ flat l, u.oneCell' = true := by
  intro u hu
  simp only [flat, List.mem_flatMap] at hu
  obtain ⟨p, _, hp⟩ := hu
  simp at hp
  rcases hp with rfl | rfl <;> rfl
/-- a literal of one symbol, as a row -/
theorem one_row (X : World) (x y : Int) : Row (X.alloc (.cells #[.int .i64 x, .int .i64 y] 47)) (.slice (some ⟨X.heap.size, 0, none⟩) 1 1) 1 (flat [(x, y)]) :=
  Syms.lit X 47 [(x, y)] 1 rfl (by decide)

set_option maxHeartbeats 4000000 in
set_option maxRecDepth 1000000 in
theorem forestWraps_walk (l : List (Int × Int)) (v : Value) (w : World) (hr : Syms w v l) :
    Calls Try.prog 11 #[v] w fun e w' => e = .returned (.bool true) ∧ Below w.heap.size w w' := by
  obtain ⟨i0, hi, hz0, hz1, hz2⟩ := infoSym
  obtain ⟨ov, cv, rfl⟩ := hr.slice
  by_cases hl : 40 < l.length
  · have hm := hr.le
    go_enter Try.func11, Try.ntmps11
    go_wp2_with (go_at_call 25; refine (told15_any _).mono ?_; rintro e w1 ⟨rfl, hb1⟩)
    go_ret
    exact ⟨rfl, by repeat (first | exact Below.refl _ _ | assumption | (refine Below.drew ?_) | (refine below_drewN ?_ _) | (refine bel_new ?_ _) | (refine bel_then ?_ (by assumption)))⟩
  have hn : l.length ≤ 40 := by omega
  have hfl := flat_len l
  have hmx := hr.le
  have hown0 : (w.alloc (.cells #[.int .i64 0, .int .i64 1] 47)).ownsRow w.heap.size 47 2 (.slice (some ⟨w.heap.size, 0, none⟩) 1 1) 1 [.int .i64 0, .int .i64 1] :=
    World.ownsRow_lit (e := 47) (base := w.heap.size) (size := 2) w #[.int .i64 0, .int .i64 1] 1 (Nat.le_refl _) (by decide) rfl
  have HW := Lib.hid (wrap_facts l)
  have HC := Lib.hid (call_facts l)
  clear hl
  go_enter Try.func11, Try.ntmps11
  go_wp2_with (first
    | (at_builtin; refine wpListW_append_row _ (by rfl) _ _ 45 rfl w.heap.size 47 i0 (.agg #[.int .i64 0, .int .i64 0]) 2 16 Try.underlying45 hi hz0 hz1 hz2 rfl (by decide) _ 1 [.int .i64 0, .int .i64 1] rfl hown0 _ l.length (flat l) rfl (hr.below (bel_new (Below.refl _ _) _)) hfl (flat_one l) (by unfold maxLen; omega) (by omega) (by simp) ?_; intro v1 w1 hown1 hg1; have hB1 : Below w.heap.size w w1 := ((Below.refl w.heap.size w).alloc (Nat.le_refl _) _).grown hg1 (by simp) (fun j hj => (hown0.lt j hj).1))
    | (at_builtin; refine wpListW_append_row _ (by rfl) _ _ 45 rfl w.heap.size 47 i0 (.agg #[.int .i64 0, .int .i64 0]) 2 16 Try.underlying45 hi hz0 hz1 hz2 rfl (by decide) _ (1 + l.length) ([.int .i64 0, .int .i64 1] ++ flat l) rfl (hown1.alloc _) _ 1 (flat [(0, 2)]) rfl (one_row w1 0 2) (by decide) (flat_one _) (by unfold maxLen; omega) (by omega) (by have := hB1.size; simp; omega) ?_; intro v2 w2 hown2 hg2; have hB2 : Below w.heap.size w w2 := (hB1.alloc hB1.size _).grown hg2 (by have := hB1.size; simp; omega) (fun j hj => (hown1.lt j hj).1))
    )
  have hwlen : ([((0 : Int), (1 : Int))] ++ l ++ [(0, 2)]).length = 1 + l.length + 1 := by simp; omega
  have hS2 : Syms w2 v2 ([(0, 1)] ++ l ++ [(0, 2)]) := by
    have h := Row.owned hown2
    unfold Syms
    rw [flat_append, flat_append, hwlen]
    exact h
  obtain ⟨o2, c2, rfl⟩ := owns_slice hown2
  have HS := Lib.hid hS2
  clear hown0 hown1 hg1 hB1 hown2 hg2 hS2
  have hrw := fun (w' : World) (h : Below w.heap.size w w') => hr.below h
  refine (well_any l _ _ (hr.below hB2) (by omega)).mono ?_
  rintro e w3 ⟨rfl, hb3⟩
  have hB3 : Below w.heap.size w w3 := bel_then hB2 hb3
  cases hwl : wellB l with
  | false =>
    have hown9 := fun (X : World) => World.ownsRow_lit (e := 47) (base := X.heap.size) (size := 2) X #[] 0 (Nat.le_refl _) (by decide) rfl
    go_wp2_with fail
    refine (told15_any _).mono ?_
    rintro e w4 ⟨rfl, hb4⟩
    have hB4 : Below w.heap.size w w4 := bel_then hB3 hb4
    clear hb3 hb4 hB3 hB2
    have hr4 := hr.below hB4
    go_wp2_with (first
      | (at_builtin; refine wpListW_append_row _ (by rfl) _ _ 45 rfl w4.heap.size 47 i0 (.agg #[.int .i64 0, .int .i64 0]) 2 16 Try.underlying45 hi hz0 hz1 hz2 rfl (by decide) _ 0 [] rfl (hown9 w4) _ l.length (flat l) rfl (hr4.below (bel_new (Below.refl _ _) _)) hfl (flat_one l) (by unfold maxLen; omega) (by omega) (by simp) ?_; intro v5 w5 hown5 hg5; have hB5 : Below w4.heap.size w4 w5 := ((Below.refl w4.heap.size w4).alloc (Nat.le_refl _) _).grown hg5 (by simp) (fun j hj => ((hown9 w4).lt j hj).1))
      | (at_builtin; refine wpListW_append_row _ (by rfl) _ _ 45 rfl w4.heap.size 47 i0 (.agg #[.int .i64 0, .int .i64 0]) 2 16 Try.underlying45 hi hz0 hz1 hz2 rfl (by decide) _ (0 + l.length) ([] ++ flat l) rfl (hown5.alloc _) _ 1 (flat [(0, 1)]) rfl (one_row w5 0 1) (by decide) (flat_one _) (by unfold maxLen; omega) (by omega) (by have := hB5.size; simp; omega) ?_; intro v6 w6 hown6 hg6; have hB6 : Below w4.heap.size w4 w6 := (hB5.alloc hB5.size _).grown hg6 (by have := hB5.size; simp; omega) (fun j hj => (hown5.lt j hj).1)))
    have hS6 : Syms w6 v6 (l ++ [(0, 1)]) := by
      have h := Row.owned hown6
      unfold Syms
      rw [flat_append]
      simpa using h
    have hB : Below w.heap.size w w6 := bel_then hB4 hB6
    clear hown5 hg5 hB5 hown6 hg6 hB6
    refine (well_any (l ++ [(0, 1)]) _ _ hS6 (by simp; omega)).mono ?_
    rintro e w7 ⟨rfl, hb7⟩
    rw [HC.out]
    have hB7 : Below w.heap.size w w7 := bel_then hB hb7
    go_wp2
    go_ret
    exact ⟨rfl, hB7⟩
  | true =>
    obtain ⟨f1, f2, f3, f4⟩ := HW.out hwl
    obtain ⟨W, hW⟩ : ∃ W, W = [((0 : Int), (1 : Int))] ++ l ++ [(0, 2)] := ⟨_, rfl⟩
    have hSW : Syms w2 (.slice o2 (1 + l.length + 1) c2) W := by rw [hW]; exact HS.out
    rw [← hW] at f1 f2 f3 hwlen
    obtain ⟨dl, hdl⟩ : ∃ d, d = dp (kns l) l.length := ⟨_, rfl⟩
    have hdl2 := dp_le (kns l) l.length
    rw [← hdl] at f2 hdl2
    have HF := Lib.hid (And.intro f1 (And.intro f2 (And.intro f3 (And.intro f4 (And.intro hwlen hdl)))))
    have hS3 := hSW.below hb3
    have hown9 := fun (X : World) => World.ownsRow_lit (e := 47) (base := X.heap.size) (size := 2) X #[] 0 (Nat.le_refl _) (by decide) rfl
    clear f1 f2 f3 f4 hW hwlen hdl hSW hb3 hB2
    go_wp2_with fail
    refine (pairs_any W _ _ hS3 (by have := HF.out.2.2.2.2.1; omega)).mono ?_
    rintro e w4 ⟨u4, rfl, hown4, hb4⟩
    have hl4 := HF.out.2.2.2.2.1
    rw [hl4] at hown4
    obtain ⟨g4, c4, e4⟩ := Joins.ownsRow_form hown4 (by omega)
    subst e4
    have k4 : w4.cell? ⟨g4, 0, none⟩ = some (.int .i64 (1 + (l.length : Int))) := by
      have h := cell_add (hown4.cells rfl) 0 _ (prsRow_get W 0 (by omega))
      rw [HF.out.2.2.1] at h
      rw [h]; congr 2; omega
    have hg4 := (hown4.lt g4 rfl).2
    have hS4 := hS3.below hb4
    have hB4 : Below w.heap.size w w4 := bel_then hB3 hb4
    clear hown4 hb4 hS3 hB3 hl4
    go_wp2_with fail
    refine (told15_any _).mono ?_
    rintro e w5 ⟨rfl, hb5⟩
    have hS5 := hS4.below hb5
    have hB5 : Below w.heap.size w w5 := bel_then hB4 hb5
    have k5 : w5.cell? ⟨g4, 0, none⟩ = some (.int .i64 (1 + (l.length : Int))) := (hb5.cell hg4).trans k4
    have hg5 := Nat.lt_of_lt_of_le hg4 hb5.size
    clear hb5 hS4 hB4 k4 hg4
    go_wp2_with fail
    refine (well_any W _ _ hS5 (by have := HF.out.2.2.2.2.1; omega)).mono ?_
    rintro e w6 ⟨rfl, hb6⟩
    rw [HF.out.1]
    have hS6 := hS5.below hb6
    have hB6 : Below w.heap.size w w6 := bel_then hB5 hb6
    have k6 : w6.cell? ⟨g4, 0, none⟩ = some (.int .i64 (1 + (l.length : Int))) := (hb6.cell hg5).trans k5
    have hg6 := Nat.lt_of_lt_of_le hg5 hb6.size
    clear hb6 hS5 hB5 k5 hg5
    go_wp2_with fail
    refine (deep_any W _ _ hS6 (by have := HF.out.2.2.2.2.1; omega)).mono ?_
    rintro e w7 ⟨rfl, hb7⟩
    rw [HF.out.2.1]
    have hB7 : Below w.heap.size w w7 := bel_then hB6 hb7
    have k7 : w7.cell? ⟨g4, 0, none⟩ = some (.int .i64 (1 + (l.length : Int))) := (hb7.cell hg6).trans k6
    have hg7 := Nat.lt_of_lt_of_le hg6 hb7.size
    clear hb7 hS6 hB6 k6 hg6
    go_wp2_with fail
    refine (deep_any l _ _ (hr.below hB7) (by omega)).mono ?_
    rintro e w8 ⟨rfl, hb8⟩
    rw [← HF.out.2.2.2.2.2]
    have hB8 : Below w.heap.size w w8 := bel_then hB7 hb8
    have k8 : w8.cell? ⟨g4, 0, none⟩ = some (.int .i64 (1 + (l.length : Int))) := (hb8.cell hg7).trans k7
    clear hb8 hB7 k7 hg7
    have hr8 := hr.below hB8
    go_wp2_with (first
      | (at_builtin; refine wpListW_append_row _ (by rfl) _ _ 45 rfl w8.heap.size 47 i0 (.agg #[.int .i64 0, .int .i64 0]) 2 16 Try.underlying45 hi hz0 hz1 hz2 rfl (by decide) _ 0 [] rfl (hown9 w8) _ l.length (flat l) rfl (hr8.below (bel_new (Below.refl _ _) _)) hfl (flat_one l) (by unfold maxLen; omega) (by omega) (by simp) ?_; intro v10 w10 hown10 hg10; have hB10 : Below w8.heap.size w8 w10 := ((Below.refl w8.heap.size w8).alloc (Nat.le_refl _) _).grown hg10 (by simp) (fun j hj => ((hown9 w8).lt j hj).1))
      | (at_builtin; refine wpListW_append_row _ (by rfl) _ _ 45 rfl w8.heap.size 47 i0 (.agg #[.int .i64 0, .int .i64 0]) 2 16 Try.underlying45 hi hz0 hz1 hz2 rfl (by decide) _ (0 + l.length) ([] ++ flat l) rfl hown10 _ l.length (flat l) rfl (hr8.below hB10) hfl (flat_one l) (by unfold maxLen; omega) (by omega) hB10.size ?_; intro v11 w11 hown11 hg11; have hB11 : Below w8.heap.size w8 w11 := hB10.grown hg11 hB10.size (fun j hj => (hown10.lt j hj).1)))
    have hS11 : Syms w11 v11 (l ++ l) := by
      have h := Row.owned hown11
      unfold Syms
      rw [flat_append, List.length_append]
      simpa using h
    have hB : Below w.heap.size w w11 := bel_then hB8 hB11
    clear hown10 hg10 hB10 hown11 hg11 hB11 k8
    refine (well_any (l ++ l) _ _ hS11 (by simp; omega)).mono ?_
    rintro e w12 ⟨rfl, hb12⟩
    rw [HF.out.2.2.2.1]
    have hB12 : Below w.heap.size w w12 := bel_then hB hb12
    go_wp2
    go_ret
    exact ⟨rfl, hB12⟩
end Go.Proofs.Ytjeploipaejepaa
