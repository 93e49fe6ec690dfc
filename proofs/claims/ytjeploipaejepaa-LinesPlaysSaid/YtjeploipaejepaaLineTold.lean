/- Lines: the law's own examples. -/
import Derived.Test.YtjeploipaejepaaLineSplice
import Derived.Test.YtjeploipaejepaaLineEnds4
import Derived.Test.YtjeploipaejepaaLineFind3
import Derived.Lib.SlBytesConst
import Derived.Lib.SmallJoins
set_option linter.unusedVariables false
set_option linter.unusedSimpArgs false
namespace Go.Proofs.Ytjeploipaejepaa
open Go.RowKit

theorem told_s : sts [97, 10, 98] = [0, 2] := by decide
theorem told_asc : asc [0, 2] := ⟨by decide, rfl, fun i hi => by
  simp at hi; have : i = 0 := by omega
  subst this; decide⟩
theorem told_f1 : Finds [0, 2] 3 1 1 := .inr ⟨by decide, told_asc, 1, rfl, by decide, by decide, rfl⟩
theorem told_f2 : Finds [1] 3 (-1) (-1) := .inl ⟨fun h => absurd h.2.2.1 (by decide), rfl, rfl⟩
theorem told_e : EndsOf [97, 98, 13, 10, 99] 0 0 2 := .inr ⟨0, 0, rfl, by decide, rfl, rfl, .inr ⟨3, by decide, by decide, .inl ⟨by decide, by decide, rfl⟩⟩⟩
theorem idx_below {w w' : World} {base p n : Nat} {zs : List Int} (h : Idx w base p n zs) (hb : Below w.heap.size w w') : Idx w' base p n zs := by
  obtain ⟨h1, v, h2, h3⟩ := h
  exact ⟨h1, v, by rw [hb.block p (idx_lt h2)]; exact h2, owns_below h3 hb⟩
theorem Row.lit (w : World) (e : TypeId) (cs : List Value) (n : Nat) (h : cs.length = n) (hm : n ≤ maxLen) : Row (w.alloc (.cells cs.toArray e)) (.slice (some ⟨w.heap.size, 0, none⟩) n n) n cs := by
  have h1 := World.ownsRow_lit (e := e) (base := w.heap.size) (size := 1) w cs.toArray n (Nat.le_refl _) hm (by simpa using h)
  simpa using Row.owned h1

theorem cell_alloc' {w : World} {o : Obj} {a : Addr} {v : Value} (h : w.cell? a = some v) : (w.alloc o).cell? a = some v := by
  rw [World.cell?_of_block (w := w) (w' := w.alloc o) (Below.heap_alloc w o a.block (World.block_lt_of_cell? w a h))]; exact h
theorem ownsRow_form' {w : World} {base size n : Nat} {e : TypeId} {v : Value} {xs : List Value} (h : w.ownsRow base e size v n xs) (hn : 0 < n) : ∃ g cap, v = .slice (some ⟨g, 0, none⟩) n cap := by
  rcases h.2 with ⟨_, h0⟩ | ⟨g, cap, _, hv, _⟩
  · omega
  · exact ⟨g, cap, hv⟩
/-- a []byte of a constant text, as the run-time lays it -/
theorem Row.mark (w : World) (e : TypeId) (fr : Nat × Nat) (cs : List Value) (n : Nat) (h : cs.length = n) (hm : n ≤ maxLen) : Row (w.alloc (.cells cs.toArray e fr)) (.slice (some ⟨w.heap.size, 0, none⟩) n n) n cs := by
  refine ⟨_, _, rfl, Nat.le_refl _, hm, .inr ⟨w.heap.size, 0, rfl, by simp, fun j u hu => ?_⟩⟩
  rw [Nat.zero_add, World.cell?_alloc_mark]
  simpa using hu

set_option maxHeartbeats 1000000 in
set_option maxRecDepth 1000000 in
theorem told_any (w : World) : Calls Try.prog 13 #[] w fun e w' => e = .returned (.bool true) ∧ Below w.heap.size w w' := by
  have rc := fun (w : World) (C : Array Value) (n c : Nat) => Lib.run_convert_bytes_const (P := Try.prog) w 22 5 C n c Try.underlying22 Try.underlying5
  go_enter Try.func13, Try.ntmps13
  go_wp2_with fail
  refine (starts_any [97, 10, 98] _ _ (by decide) (Row.mark w 5 (3, 4) [.int .u8 97, .int .u8 10, .int .u8 98] 3 rfl (by decide)) (by decide)).mono ?_
  rintro e w1 ⟨u, rfl, hown1, hb1⟩
  rw [told_s] at hown1
  obtain ⟨g, cg, rfl⟩ := ownsRow_form' hown1 (by decide)
  have hB1 : Below w.heap.size w w1 := bel_then (by repeat (first | exact Below.refl _ _ | assumption | (refine Below.drew ?_) | (refine below_drewN ?_ _) | (refine bel_new ?_ _) | (refine bel_then ?_ (by assumption)))) hb1
  go_wp2_with fail
  refine (find_any [0, 2] 3 _ w1 (by decide) (Row.owned hown1) (by decide) (by decide)).mono ?_
  rintro e w2 ⟨x, y, rfl, hf, hb2⟩
  obtain ⟨rfl, rfl⟩ := hf.uniq told_f1
  have hB2 : Below w.heap.size w w2 := bel_then hB1 hb2
  have hown2 := owns_below hown1 hb2
  go_wp2_with fail
  refine (ends_any [97, 98, 13, 10, 99] 0 _ _ (by decide) (Row.mark w2 5 (5, 6) [.int .u8 97, .int .u8 98, .int .u8 13, .int .u8 10, .int .u8 99] 5 rfl (by decide)) (by decide) (by decide)).mono ?_
  rintro e w3 ⟨x, y, rfl, hf, hb3⟩
  obtain ⟨rfl, rfl⟩ := hf.uniq told_e
  have hB3 : Below w.heap.size w w3 := bel_then (by repeat (first | exact Below.refl _ _ | assumption | (refine Below.drew ?_) | (refine below_drewN ?_ _) | (refine bel_new ?_ _) | (refine bel_then ?_ (by assumption)))) hb3
  have hown3 := owns_below (owns_below hown2 (by repeat (first | exact Below.refl _ _ | assumption | (refine Below.drew ?_) | (refine below_drewN ?_ _) | (refine bel_new ?_ _) | (refine bel_then ?_ (by assumption))))) hb3
  go_wp2_with fail
  refine (find_any [1] 3 _ _ (by decide) (Row.lit w3 3 [.int .i64 1] 1 rfl (by decide)) (by decide) (by decide)).mono ?_
  rintro e w4 ⟨x, y, rfl, hf, hb4⟩
  obtain ⟨rfl, rfl⟩ := hf.uniq told_f2
  have hB4 : Below w.heap.size w w4 := bel_then (by repeat (first | exact Below.refl _ _ | assumption | (refine Below.drew ?_) | (refine below_drewN ?_ _) | (refine bel_new ?_ _) | (refine bel_then ?_ (by assumption)))) hb4
  have hown4 := owns_below (owns_below hown3 (by repeat (first | exact Below.refl _ _ | assumption | (refine Below.drew ?_) | (refine below_drewN ?_ _) | (refine bel_new ?_ _) | (refine bel_then ?_ (by assumption))))) hb4
  go_wp2_with fail
  refine (new_any w4).mono ?_
  rintro e w5 ⟨rfl, hI5, hb5⟩
  have hB5 : Below w.heap.size w w5 := bel_then hB4 hb5
  have hown5 := owns_below hown4 hb5
  have hg4 := (hown4.lt g rfl).2
  have hc4 : w4.cell? ⟨g, 1, none⟩ = some (.int .i64 2) := cell_add (hown4.cells rfl) 1 _ rfl
  have hc5 : w5.cell? ⟨g, 1, none⟩ = some (.int .i64 2) := by rw [hb5.cell hg4]; exact hc4
  have hB4' := hB4.size
  obtain ⟨B, hB⟩ : ∃ B, B = w4.heap.size := ⟨_, rfl⟩
  rw [← hB] at hI5 hg4 hB4'
  rw [← hB]
  clear hown1 hb1 hB1 hb2 hB2 hown2 hb3 hB3 hown3 hb4 hB hown4 hB4 hb5 hc4 hown5
  go_wp2_with fail
  refine (feed_any B B 0 [] [113, 10] _ _ (idx_below hI5 (by repeat (first | exact Below.refl _ _ | assumption | (refine Below.drew ?_) | (refine below_drewN ?_ _) | (refine bel_new ?_ _) | (refine bel_then ?_ (by assumption))))) (by decide) (by decide) (by decide) (Row.mark w5 5 (2, 3) [.int .u8 113, .int .u8 10] 2 rfl (by decide)) (by decide)).mono ?_
  rintro e w6 ⟨rfl, hI6, hb6⟩
  have hI6' : Idx w6 B B 2 [2] := hI6
  have hB6 : Below w.heap.size w w6 := hB5.alloc hB5.size _ |>.trans (hb6.mono hB4')
  have hc6 : w6.cell? ⟨g, 1, none⟩ = some (.int .i64 2) := by rw [hb6.cell hg4]; exact cell_alloc' hc5
  clear hI6 hI5 hb6 hc5 hB5
  go_wp2_with fail
  refine (splice_any B B 2 0 1 [2] [10] _ _ _ (idx_below hI6' (by repeat (first | exact Below.refl _ _ | assumption | (refine Below.drew ?_) | (refine below_drewN ?_ _) | (refine bel_new ?_ _) | (refine bel_then ?_ (by assumption))))) (by decide) (by decide) (by decide) (by intro i j h1 h2; simp at h2; omega) (by decide) (Row.mark w6 5 (1, 2) [.int .u8 10] 1 rfl (by decide)) (by decide) (by decide)).mono ?_
  rintro e w7 ⟨rfl, c1, c2, h1, h2, h3, h4, hI7, hb7, _⟩
  have e1 : c1 = 0 := by
    rcases Nat.eq_zero_or_pos c1 with h | h
    · exact h
    · exact absurd ((h2 0 (by decide)).2 h) (by decide)
  have e2 : c2 = 0 := by
    rcases Nat.eq_zero_or_pos c2 with h | h
    · exact h
    · exact absurd ((h4 0 (by decide)).2 h) (by decide)
  subst e1 e2
  have hI7' : Idx w7 B B 2 [1, 2] := hI7
  have hB7 : Below w.heap.size w w7 := hB6.alloc hB6.size _ |>.trans (hb7.mono hB4')
  have hc7 : w7.cell? ⟨g, 1, none⟩ = some (.int .i64 2) := by rw [hb7.cell hg4]; exact cell_alloc' hc6
  clear hI6' hI7 hb7 hc6 hB6 h1 h2 h3 h4
  go_wp2_with fail
  refine (splice_out B B 2 [1, 2] 5 1 _ _ w7 hI7' (by decide) (by decide)).mono ?_
  rintro e w8 ⟨rfl, rfl⟩
  go_wp2_with fail
  refine (idxStarts_any B B 2 [1, 2] _ hI7' (by decide)).mono ?_
  rintro e w9 ⟨u9, rfl, hown9, hb9⟩
  obtain ⟨o9, c9, rfl⟩ := owns_slice hown9
  have hB9 : Below w.heap.size w w9 := bel_then hB7 hb9
  clear hown9 hb9 hc7 hI7'
  go_wp2_with fail
  refine (splice_nil _ _ _ _ _).mono ?_
  rintro e w10 ⟨rfl, rfl⟩
  go_wp2_with fail
  refine (idxStarts_nil _).mono ?_
  rintro e w11 ⟨rfl, rfl⟩
  go_wp2
  go_ret
  exact ⟨rfl, hB9⟩
end Go.Proofs.Ytjeploipaejepaa
