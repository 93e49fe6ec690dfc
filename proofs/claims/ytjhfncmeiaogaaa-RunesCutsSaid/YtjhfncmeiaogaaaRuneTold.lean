/- runes: the law's own examples. -/
import Derived.Test.YtjhfncmeiaogaaaRuneCuts
set_option linter.unusedVariables false
set_option linter.unusedSimpArgs false
namespace Go.Proofs.Ytjhfncmeiaogaaa
open Go.RowKit Ru

theorem t5a : orF [(97, 99)] [(98, 100)] = [(97, 100)] := by decide +kernel
theorem t5b : andF [(97, 99)] [(98, 100)] = [(98, 99)] := by decide +kernel
theorem t5c : cutsF [[(97, 99)], [(98, 100)]] = [(97, 97), (98, 99), (100, 100)] := by decide +kernel
theorem t5d : nrm [(57344, 57345), (55295, 55295), (5, 4)] = [(55295, 57345)] := by decide +kernel
theorem t5e : cntF [(55295, 57345)] = 3 := by decide +kernel
theorem t5f : has [(97, 99)] 98 = true := by decide +kernel
theorem t5g : has [(97, 99)] 100 = false := by decide +kernel
theorem t5h : has [(55295, 57345)] 55296 = false := by decide +kernel
theorem t5i : mayB [(55295, 57345)] = true := by decide +kernel
theorem t5j : mayB [(5, 4)] = false := by decide +kernel
theorem t5k : nt [] = [(0, 1114111)] := by decide +kernel
theorem cellB {w W : World} {a : Addr} {v : Value} (h : Below w.heap.size w W) (hc : w.cell? a = some v) : W.cell? a = some v := (h.cell (World.block_lt_of_cell? w _ hc)).trans hc
theorem i32_dec {l : List (Int × Int)} (h : (l.all fun p => decide (-2147483648 ≤ p.1) && decide (p.1 ≤ 2147483647) && decide (-2147483648 ≤ p.2) && decide (p.2 ≤ 2147483647)) = true) : i32s l := fun p hp => by
  have := List.all_eq_true.1 h p hp
  simp at this; omega
theorem Row.litC (w : World) (e : TypeId) (k : IntKind) (l : List (Int × Int)) (cs : Array Value) (n B : Nat) (hcs : cs.toList = flatK k l) (hB : w.heap.size = B) (h : l.length = n) (hm : n ≤ maxLen) : Row (w.alloc (.cells cs e)) (.slice (some ⟨B, 0, none⟩) n n) n (flatK k l) := by
  subst hB
  refine ⟨_, _, rfl, Nat.le_refl _, hm, .inr ⟨w.heap.size, 0, rfl, by simp, fun j u hu => ?_⟩⟩
  rw [Nat.zero_add, World.cell?_alloc_mark]
  rw [← hcs] at hu
  simpa using hu
theorem Row.litV (w : World) (e : TypeId) (cs : Array Value) (n B : Nat) (hB : w.heap.size = B) (h : cs.size = n) (hm : n ≤ maxLen) : Row (w.alloc (.cells cs e)) (.slice (some ⟨B, 0, none⟩) n n) n cs.toList := by
  subst hB
  refine ⟨_, _, rfl, Nat.le_refl _, hm, .inr ⟨w.heap.size, 0, rfl, by simp, fun j u hu => ?_⟩⟩
  rw [Nat.zero_add, World.cell?_alloc_mark]
  simpa using hu

set_option maxHeartbeats 10000000 in
set_option maxRecDepth 1000000 in
theorem told5_any (w : World) : Calls Try.prog 27 #[] w fun e w' => e = .returned (.bool true) ∧ Below w.heap.size w w' := by
  have heq : ∀ (a b c d : Int) (w : World), Sem.run Try.prog (binOp .eql 59 (.agg #[.int .i32 a, .int .i32 b]) (.agg #[.int .i32 c, .int .i32 d])) w = .ok (.bool (decide (a = c) && decide (b = d))) w := fun a b c d w => eqlR a b c d w
  have hgd : ∀ (op : BinOp) (x y : Operand) (a b c d : Int) (w : World), Sem.run Try.prog (eqGuard op 59 x y (.agg #[.int .i32 a, .int .i32 b]) (.agg #[.int .i32 c, .int .i32 d])) w = .ok () w := fun op x y a b c d w => guardR op x y a b c d w
  have ra : Row ((w.alloc (.cells #[.int .i32 97, .int .i32 99] 59)).alloc (.cells #[.int .i32 98, .int .i32 100] 59)) (.slice (some ⟨w.heap.size, 0, none⟩) 1 1) 1 (flatK .i32 [(97, 99)]) :=
    (Row.litC w 59 .i32 [(97, 99)] _ 1 _ rfl rfl rfl (by decide)).below (bel_new (Below.refl _ _) _)
  have rb : Row ((w.alloc (.cells #[.int .i32 97, .int .i32 99] 59)).alloc (.cells #[.int .i32 98, .int .i32 100] 59)) (.slice (some ⟨w.heap.size + 1, 0, none⟩) 1 1) 1 (flatK .i32 [(98, 100)]) :=
    Row.litC _ 59 .i32 [(98, 100)] _ 1 _ rfl (by simp) rfl (by decide)
  have hB0 : Below w.heap.size w ((w.alloc (.cells #[.int .i32 97, .int .i32 99] 59)).alloc (.cells #[.int .i32 98, .int .i32 100] 59)) := bel_new (bel_new (Below.refl _ _) _) _
  have za : i32s [((97 : Int), (99 : Int))] := i32_dec (by decide)
  have zb : i32s [((98 : Int), (100 : Int))] := i32_dec (by decide)
  have H0 := Lib.hid (And.intro ra (And.intro rb (And.intro hB0 (And.intro za zb))))
  clear ra rb hB0 za zb
  go_enter Try.func27, Try.ntmps27
  go_wp2_with fail
  refine (or_any [(97, 99)] [(98, 100)] _ _ _ H0.out.1 H0.out.2.1 H0.out.2.2.2.1 H0.out.2.2.2.2 (by decide) (by decide)).mono ?_
  rintro e w1 ⟨u1, rfl, hown1, hb1⟩
  rw [t5a] at hown1
  obtain ⟨g1, c1, rfl⟩ := Joins.ownsRow_form hown1 (by decide)
  have ra := H0.out.1.below hb1
  have rb := H0.out.2.1.below hb1
  have r1 := Row.owned hown1
  have hB1 := bel_then H0.out.2.2.1 hb1
  have H1 := Lib.hid (And.intro ra (And.intro rb (And.intro r1 hB1)))
  clear ra rb r1 hB1 hown1 hb1
  go_wp2_with fail
  refine (and_any [(97, 99)] [(98, 100)] _ _ _ H1.out.1 H1.out.2.1 H0.out.2.2.2.1 H0.out.2.2.2.2 (by decide) (by decide)).mono ?_
  rintro e w2 ⟨u2, rfl, hown2, hb2⟩
  rw [t5b] at hown2
  obtain ⟨g2, c2, rfl⟩ := Joins.ownsRow_form hown2 (by decide)
  have H2 := Lib.hid (And.intro (H1.out.1.below hb2) (And.intro (H1.out.2.1.below hb2) (And.intro (H1.out.2.2.1.below hb2) (And.intro (Row.owned hown2) (bel_then H1.out.2.2.2 hb2)))))
  clear hown2 hb2
  go_wp2_with fail
  have hv : Row (w2.alloc (.cells #[.slice (some ⟨w.heap.size, 0, none⟩) 1 1, .slice (some ⟨w.heap.size + 1, 0, none⟩) 1 1] 47)) (.slice (some ⟨w2.heap.size, 0, none⟩) 2 2) 2 [.slice (some ⟨w.heap.size, 0, none⟩) 1 1, .slice (some ⟨w.heap.size + 1, 0, none⟩) 1 1] :=
    Row.litV w2 47 _ 2 _ rfl rfl (by decide)
  have hb3 := bel_new (Below.refl _ w2) (.cells #[.slice (some ⟨w.heap.size, 0, none⟩) 1 1, .slice (some ⟨w.heap.size + 1, 0, none⟩) 1 1] 47)
  have hrs : RowsR (w2.alloc (.cells #[.slice (some ⟨w.heap.size, 0, none⟩) 1 1, .slice (some ⟨w.heap.size + 1, 0, none⟩) 1 1] 47)) (.slice (some ⟨w2.heap.size, 0, none⟩) 2 2) [.slice (some ⟨w.heap.size, 0, none⟩) 1 1, .slice (some ⟨w.heap.size + 1, 0, none⟩) 1 1] [[(97, 99)], [(98, 100)]] := by
    refine ⟨rfl, hv, fun i hi => ?_⟩
    match i, hi with
    | 0, _ => exact H2.out.1.below hb3
    | 1, _ => exact H2.out.2.1.below hb3
  have H3 := Lib.hid (And.intro hrs hb3)
  clear hrs hb3 hv
  refine (cutsR_any [[(97, 99)], [(98, 100)]] _ _ _ H3.out.1 (fun l hl => by
    simp only [List.mem_cons, List.not_mem_nil, or_false] at hl
    rcases hl with rfl | rfl
    · exact H0.out.2.2.2.1
    · exact H0.out.2.2.2.2) (by decide) (by decide)).mono ?_
  rintro e w3 ⟨u3, rfl, hown3, hb4⟩
  rw [t5c] at hown3
  obtain ⟨g3, c3, rfl⟩ := Joins.ownsRow_form hown3 (by decide)
  have hb5 := bel_then H3.out.2 hb4
  have H4 := Lib.hid (And.intro (H2.out.1.below hb5) (And.intro (H2.out.2.2.1.below hb5) (And.intro (H2.out.2.2.2.1.below hb5) (And.intro (Row.owned hown3) (bel_then H2.out.2.2.2.2 hb5)))))
  clear hown3 hb4 hb5
  go_wp2_with fail
  have rx : Row (w3.alloc (.cells #[.int .i32 57344, .int .i32 57345, .int .i32 55295, .int .i32 55295, .int .i32 5, .int .i32 4] 59)) (.slice (some ⟨w3.heap.size, 0, none⟩) 3 3) 3 (flatK .i32 [(57344, 57345), (55295, 55295), (5, 4)]) :=
    Row.litC _ 59 .i32 [(57344, 57345), (55295, 55295), (5, 4)] _ 3 _ rfl rfl rfl (by decide)
  have Hx := Lib.hid rx
  clear rx
  refine (norm_any [(57344, 57345), (55295, 55295), (5, 4)] _ _ Hx.out (i32_dec (by decide)) (by decide)).mono ?_
  rintro e w4 ⟨u4, rfl, hown4, hb6⟩
  rw [t5d] at hown4
  obtain ⟨g4, c4, rfl⟩ := Joins.ownsRow_form hown4 (by decide)
  have hb7 := bel_then (bel_new (Below.refl _ w3) _) hb6
  have ra := H4.out.1.below hb7
  have r1 := H4.out.2.1.below hb7
  have r2 := H4.out.2.2.1.below hb7
  have r3 := H4.out.2.2.2.1.below hb7
  have r4 := Row.owned hown4
  have p1 := r1.pair (i := 0) (by decide) rfl
  have p2 := r2.pair (i := 0) (by decide) rfl
  have p3 := r3.pair (i := 1) (by decide) rfl
  have p4 := r4.pair (i := 0) (by decide) rfl
  obtain ⟨_, p10, p11⟩ := p1
  obtain ⟨_, p20, p21⟩ := p2
  obtain ⟨_, p30, p31⟩ := p3
  obtain ⟨_, p40, p41⟩ := p4
  have H5 := Lib.hid (And.intro ra (And.intro r4 (bel_then H4.out.2.2.2.2 hb7)))
  clear ra r1 r2 r3 r4 hown4 hb6 hb7
  simp only [Nat.zero_add, Nat.zero_mul, Nat.one_mul, List.getD_cons_zero, List.getD_cons_succ] at p10 p11 p20 p21 p30 p31 p40 p41
  have HK := Lib.hid (show ∀ W, Below w4.heap.size w4 W → (W.cell? ⟨g1, 0, none⟩ = some (.int .i32 97) ∧ W.cell? ⟨g1, 1, none⟩ = some (.int .i32 100) ∧ W.cell? ⟨g2, 0, none⟩ = some (.int .i32 98) ∧ W.cell? ⟨g2, 1, none⟩ = some (.int .i32 99) ∧ W.cell? ⟨g3, 2, none⟩ = some (.int .i32 98) ∧ W.cell? ⟨g3, 2 + 1, none⟩ = some (.int .i32 99) ∧ W.cell? ⟨g4, 0, none⟩ = some (.int .i32 55295) ∧ W.cell? ⟨g4, 1, none⟩ = some (.int .i32 57345)) from fun W h => ⟨cellB h p10, cellB h p11, cellB h p20, cellB h p21, cellB h p30, cellB h p31, cellB h p40, cellB h p41⟩)
  clear p10 p11 p20 p21 p30 p31 p40 p41
  go_wp2_with fail
  simp only [List.append_eq, List.cons_append, List.nil_append]
  go_region_held3 (fun w' => w'.cell? ⟨g1, 0, none⟩ = some (.int .i32 97) ∧ w'.cell? ⟨g1, 1, none⟩ = some (.int .i32 100) ∧ w'.cell? ⟨g2, 0, none⟩ = some (.int .i32 98) ∧ w'.cell? ⟨g2, 1, none⟩ = some (.int .i32 99) ∧ w'.cell? ⟨g3, 2, none⟩ = some (.int .i32 98) ∧ w'.cell? ⟨g3, 2 + 1, none⟩ = some (.int .i32 99) ∧ w'.cell? ⟨g4, 0, none⟩ = some (.int .i32 55295) ∧ w'.cell? ⟨g4, 1, none⟩ = some (.int .i32 57345))
    (first | exact HK.out _ (by repeat (first | exact Below.refl _ _ | assumption | (refine Below.drew ?_) | (refine below_drewN ?_ _) | (refine bel_new ?_ _) | (refine bel_then ?_ (by assumption)))) | go_keep)
    (first
      | (go_at_call 41; refine (count_any [(55295, 57345)] _ _ (H5.out.2.1.below (by repeat (first | exact Below.refl _ _ | assumption | (refine Below.drew ?_) | (refine below_drewN ?_ _) | (refine bel_new ?_ _) | (refine bel_then ?_ (by assumption))))) (i32_dec (by decide)) (by decide)).mono ?_; rintro e w5 ⟨rfl, hb⟩; have hB : Below w4.heap.size w4 w5 := bel_then (by repeat (first | exact Below.refl _ _ | assumption | (refine Below.drew ?_) | (refine below_drewN ?_ _) | (refine bel_new ?_ _) | (refine bel_then ?_ (by assumption)))) hb; rw [t5e])
      | (go_at_call_of 33 (Value.slice (some ⟨g4, 0, none⟩) 1 c4); refine (has_any [(55295, 57345)] 55296 _ _ (H5.out.2.1.below (by repeat (first | exact Below.refl _ _ | assumption | (refine Below.drew ?_) | (refine below_drewN ?_ _) | (refine bel_new ?_ _) | (refine bel_then ?_ (by assumption))))) (by decide)).mono ?_; rintro e w5 ⟨rfl, hb⟩; have hB : Below w4.heap.size w4 w5 := bel_then (by repeat (first | exact Below.refl _ _ | assumption | (refine Below.drew ?_) | (refine below_drewN ?_ _) | (refine bel_new ?_ _) | (refine bel_then ?_ (by assumption)))) hb; rw [t5h])
      | (go_at_call_of 33 (Value.int .i32 98); refine (has_any [(97, 99)] 98 _ _ (H5.out.1.below (by repeat (first | exact Below.refl _ _ | assumption | (refine Below.drew ?_) | (refine below_drewN ?_ _) | (refine bel_new ?_ _) | (refine bel_then ?_ (by assumption))))) (by decide)).mono ?_; rintro e w5 ⟨rfl, hb⟩; have hB : Below w4.heap.size w4 w5 := bel_then (by repeat (first | exact Below.refl _ _ | assumption | (refine Below.drew ?_) | (refine below_drewN ?_ _) | (refine bel_new ?_ _) | (refine bel_then ?_ (by assumption)))) hb; rw [t5f])
      | (go_at_call_of 33 (Value.int .i32 100); refine (has_any [(97, 99)] 100 _ _ (H5.out.1.below (by repeat (first | exact Below.refl _ _ | assumption | (refine Below.drew ?_) | (refine below_drewN ?_ _) | (refine bel_new ?_ _) | (refine bel_then ?_ (by assumption))))) (by decide)).mono ?_; rintro e w5 ⟨rfl, hb⟩; have hB : Below w4.heap.size w4 w5 := bel_then (by repeat (first | exact Below.refl _ _ | assumption | (refine Below.drew ?_) | (refine below_drewN ?_ _) | (refine bel_new ?_ _) | (refine bel_then ?_ (by assumption)))) hb; rw [t5g])
      | (go_at_call_of 28 (Value.slice (some ⟨g4, 0, none⟩) 1 c4); refine (mayR_any [(55295, 57345)] _ _ (H5.out.2.1.below (by repeat (first | exact Below.refl _ _ | assumption | (refine Below.drew ?_) | (refine below_drewN ?_ _) | (refine bel_new ?_ _) | (refine bel_then ?_ (by assumption))))) (i32_dec (by decide)) (by decide)).mono ?_; rintro e w5 ⟨rfl, hb⟩; have hB : Below w4.heap.size w4 w5 := bel_then (by repeat (first | exact Below.refl _ _ | assumption | (refine Below.drew ?_) | (refine below_drewN ?_ _) | (refine bel_new ?_ _) | (refine bel_then ?_ (by assumption)))) hb; rw [t5i])
      | (go_at_call 28; refine (mayR_any [(5, 4)] _ _ (Row.litC _ 59 .i32 [(5, 4)] _ 1 _ rfl (by first | rfl | simp) rfl (by decide)) (i32_dec (by decide)) (by decide)).mono ?_; rintro e w5 ⟨rfl, hb⟩; have hB : Below w4.heap.size w4 w5 := bel_then (by repeat (first | exact Below.refl _ _ | assumption | (refine Below.drew ?_) | (refine below_drewN ?_ _) | (refine bel_new ?_ _) | (refine bel_then ?_ (by assumption)))) hb; rw [t5j])
      | (go_at_call 39; refine (not_any [] _ _ (Row.nil _) (i32_dec (by decide)) (by decide)).mono ?_; rintro e w5 ⟨u5, rfl, hown5, hb⟩; rw [t5k] at hown5; obtain ⟨g5, c5, rfl⟩ := Joins.ownsRow_form hown5 (by decide); have hB : Below w4.heap.size w4 w5 := bel_then (by repeat (first | exact Below.refl _ _ | assumption | (refine Below.drew ?_) | (refine below_drewN ?_ _) | (refine bel_new ?_ _) | (refine bel_then ?_ (by assumption)))) hb)
      | (go_at_call 43; refine (same_any [(97, 99)] [(97, 99)] _ _ _ (H5.out.1.below (by repeat (first | exact Below.refl _ _ | assumption | (refine Below.drew ?_) | (refine below_drewN ?_ _) | (refine bel_new ?_ _) | (refine bel_then ?_ (by assumption))))) (H5.out.1.below (by repeat (first | exact Below.refl _ _ | assumption | (refine Below.drew ?_) | (refine below_drewN ?_ _) | (refine bel_new ?_ _) | (refine bel_then ?_ (by assumption))))) (by decide) (by decide)).mono ?_; rintro e w5 ⟨rfl, hb⟩; have hB : Below w4.heap.size w4 w5 := bel_then (by repeat (first | exact Below.refl _ _ | assumption | (refine Below.drew ?_) | (refine below_drewN ?_ _) | (refine bel_new ?_ _) | (refine bel_then ?_ (by assumption)))) hb))
  go_wp2_with fail
  go_ret
  exact ⟨rfl, bel_then H5.out.2.2 hB⟩
end Go.Proofs.Ytjhfncmeiaogaaa
