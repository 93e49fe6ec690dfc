/- Merged. -/
import Derived.Test.YtfkmajjgkdjncaaGreatDoorPaText
import Derived.Test.YtfkmajjgkdjncaaGreatDoorPdTk5
set_option linter.unusedVariables false
set_option linter.unusedSimpArgs false
set_option maxHeartbeats 4000000
set_option maxRecDepth 100000
namespace Go.Proofs.YtfkmajjgkdjncaaGreatDoor
open Go.RowKit De Wd
theorem pcheck_none (p k : Nat) (U : List Uw) (wv tv rv ti ri : Value) (pst : List (TK × Value × Value)) (psr : List (RU × Value)) (lr : List Int) (w0 w : World) (hp0 : p < w0.heap.size) (hli : LI w0 w p U k wv tv rv ti ri pst psr [] lr)
 (hTl : pst.length ≤ 1000) (hRl : psr.length ≤ 1000) (hTf : TFit (pst.map (·.1))) (hRf : RFit (psr.map (·.1))) (c : Int) (hc0 : c ≠ 0) (at_ : Int) (hat : 0 ≤ at_ ∧ at_ ≤ 1000) (hc : chkE (pst.map (·.1)) (psr.map (·.1)) = (c, at_)) :
 Calls Tryz.prog 24 #[.pointer (some ⟨p, 0, none⟩)] w fun x w' => x = .panicked [{ v := .iface 65 (.agg #[.int .i64 c, .int .i64 0]), recovered := false }] ∧ LI w0 w' p U k wv tv rv ti ri pst psr [] lr := by
 have HG := Lib.hid (gchk_any (pst.map (·.1)) (psr.map (·.1)) tv rv w hli.tk.are hli.ru.are (by simpa using hTl) (by simpa using hRl) hTf hRf)
 obtain ⟨oti, cti, hti⟩ := owns_slice hli.it
 subst hti
 obtain ⟨⟨c0, c1, c2, c3, c4, c5, c6⟩, f0, f1, f2, f3, f4, f5, f6⟩ := cells7_of hli.x.hh
 have HLI := Lib.hid hli
 have HC := Lib.hid hc
 have hcd : (c == 0) = false := by simpa using hc0
 have ha0 := hat.1
 have ha1 := hat.2
 clear hli hc hTf hRf
 go_enter Tryz.func24, Tryz.ntmps24
 go_wp2_with fail
 refine HG.out.mono ?_
 rintro x w2 ⟨rfl, hb2⟩
 rw [HC.out]
 have hli2 := HLI.out.ch hp0 (Ch.of hb2) (HLI.out.x.moved hb2) (Nat.le_refl _)
 obtain ⟨⟨d0, d1, d2, d3, d4, d5, d6⟩, g0, g1, g2, g3, g4, g5, g6⟩ := cells7_of hli2.x.hh
 have H2 := Lib.hid hli2
 clear hb2 hli2
 go_wp2_with fail
 exact ⟨rfl, rfl, H2.out⟩
end Go.Proofs.YtfkmajjgkdjncaaGreatDoor

set_option maxHeartbeats 4000000
set_option maxRecDepth 100000
namespace Go.Proofs.YtfkmajjgkdjncaaGreatDoor
open Go.RowKit De Wd
theorem source_empty (w : World) :
 Calls Tryz.prog 10 #[.string ⟨#[]⟩] w fun x w' => x = .returned (.tuple #[.agg #[.slice none 0 0, .slice none 0 0], .int .i64 6, .int .i64 0]) ∧ Below w.heap.size w w' := by
 obtain ⟨s, hsd⟩ : ∃ s : ByteArray, s = ⟨#[]⟩ := ⟨_, rfl⟩
 rw [← hsd]
 obtain ⟨W, hWd⟩ : ∃ W : List (Nat × Wt), W = [] := ⟨_, rfl⟩
 have hs : s.size ≤ 100000 := by rw [hsd]; decide
 have hr : rs (sb s) = .ok W := by
  rw [hsd, hWd]
  have h9 := rs_ok (l := []) (by decide) (by rw [sc_nil]) (by simp)
  rw [sc_nil] at h9
  exact h9
 have hp : ∀ v ∈ W.map (vw (sb s)), v.1 ≠ 0 := by rw [hWd]; intro v hv; cases hv
 have hWl : W.length ≤ 100000 := by rw [hWd]; decide
 have HW0 := Lib.hid (show W.length = 0 by rw [hWd]; rfl)
 clear hsd hWd
 have hmf : ∀ (fn : Fn) (first cap : Array Value) (w : World), (Instr.makeFunc fn first cap).run Tryz.prog w = .ok (.func fn first cap) w := fun _ _ _ _ => rfl
 have hfd0 : ∀ (a c : Int) (b : ByteArray) (w : World), (Instr.field 72 (.agg #[.int .i64 a, .string b, .int .i64 c]) 0).run Tryz.prog w = .ok (.int .i64 a) w := fun _ _ _ _ => by kernel_rfl
 have hV := usW_ok hp
 obtain ⟨V, hVd⟩ : ∃ V, V = W.map (vw (sb s)) := ⟨_, rfl⟩
 have hUl := usW_len s W
 have hUf := usW_flat s W
 obtain ⟨U, hU⟩ : ∃ U, U = usW s W := ⟨_, rfl⟩
 rw [← hVd, ← hU] at hV
 rw [← hVd] at hp
 rw [← hU] at hUl hUf
 have hVl : V.length = W.length := by rw [hVd]; simp
 obtain ⟨iw, hi0, hi1, hi2, hi3⟩ := infoWord
 obtain ⟨W3, hW3⟩ : ∃ W3, W3 = (((w.alloc (.cells #[.slice none 0 0, .slice none 0 0] 26)).alloc (.cells #[.int .i64 0] 3)).alloc (.cells #[.int .i64 0] 3)) := ⟨_, rfl⟩
 obtain ⟨g0, g1, g2, g3, g4⟩ := threeW w _ _ _ W3 hW3
 have hall := wordAll_any s W3 hs
 unfold AllPost at hall
 rw [hr] at hall
 have HA := Lib.hid hall
 have HU := Lib.hid (And.intro hUf (And.intro hV hp))
 have hsl : (s.size : Int) ≤ 9223372036854775807 := by omega
 have HG := Lib.hid (And.intro hW3 (And.intro g0 (And.intro g1 (And.intro g2 (And.intro g3 g4)))))
 clear hW3 g0 g1 g2 g3 g4 hall hr hUf hV hp hVd hU
 go_enter_defers Tryz.func10, Tryz.ntmps10
 go_wp2_with fail
 obtain ⟨hW3, g0, g1, g2, g3, g4⟩ := HG.out
 rw [← hW3]
 refine HA.out.mono ?_
 rintro x w4 ⟨uv, rfl, hown4, hb4⟩
 have hold4 : HoldG w w4 (.slice none 0 0) (.slice none 0 0) := HoldG.below ⟨g0, g1, g2, g4⟩ (by omega) hb4
 have hz4 := hb4.size
 obtain ⟨ou, cu, rfl⟩ := owns_slice hown4
 obtain ⟨d1, f1⟩ := cell1_of hold4.h1
 obtain ⟨d2, f2⟩ := cell1_of hold4.h2
 obtain ⟨W4, hW4⟩ : ∃ W4, W4 = ((w4.setCell ⟨w.heap.size + 1, 0, none⟩ (.int .i64 0)).setCell ⟨w.heap.size + 1 + 1, 0, none⟩ (.int .i64 0)) := ⟨_, rfl⟩
 have hh4 : HoldG w W4 (.slice none 0 0) (.slice none 0 0) := by rw [hW4]; exact hold4.zero
 have hown : W4.ownsRow W3.heap.size 72 3 (.slice ou W.length cu) W.length (wcs s W) := by
  rw [hW4]; exact owns_setOther (owns_setOther hown4 (by omega)) (by omega)
 have hz5 : W3.heap.size ≤ W4.heap.size := by rw [hW4]; simpa [World.setCell] using hz4
 have H4 := Lib.hid (And.intro hh4 (And.intro hown hW4))
 have h3s : W3.heap.size = w.heap.size + 1 + 1 + 1 := g3
 clear hh4 hown hW4 hold4 hown4 hb4 hz4 hW3 g0 g1 g2 g3 g4 HG
 have hre : (W4 = ((w4.setCell ⟨w.heap.size + 1, 0, none⟩ (.int .i64 0)).setCell ⟨w.heap.size + 1 + 1, 0, none⟩ (.int .i64 0))) := H4.out.2.2
 have HRE := Lib.hid hre
 clear hre
 obtain ⟨e1, e1f⟩ := cell1_of H4.out.1.h1
 have hW4s : w.heap.size + 1 + 1 + 1 ≤ W4.heap.size := by omega
 go_wp2_with (first | (with_reducible rw [← HRE.out]) | (at_builtin; refine wpList_append_far _ rfl _ _ 67 rfl W3.heap.size 72 iw _ 3 32 Tryz.underlying67 hi0 hi1 hi2 hi3 rfl (by decide) (.slice ou W.length cu) W.length (wcs s W) rfl (by repeat (first | exact H4.out.2.1 | refine World.ownsRow.alloc ?_ _ | refine owns_drew ?_)) _ 1 _ rfl (by exact afrow_new rfl (by simp)) rfl (by simp [Value.oneCell']) (by unfold maxLen; omega) (by omega) (by simp; omega) ?_; intro v5 w5 hown5 hg5 hf5 hb5; obtain ⟨o5, c5, rfl⟩ := owns_slice hown5))
 have hb45 : Below W3.heap.size W4 w5 := Below.trans (bel_low hz5 (bel_new (Below.refl _ _) _)) hb5
 have hh5 : HoldG w w5 (.slice none 0 0) (.slice none 0 0) := H4.out.1.below3 (by omega) hb45
 obtain ⟨W6, hW6⟩ : ∃ W6, W6 = w5.alloc (.cells #[.slice o5 (W.length + 1) c5, .int .i64 0, .int .i64 0, .slice none 0 0, .slice none 0 0, .slice none 0 0, .slice none 0 0] 74) := ⟨_, rfl⟩
 obtain ⟨p, hp⟩ : ∃ p, p = w5.heap.size := ⟨_, rfl⟩
 have hw5s : w.heap.size + 1 + 1 + 1 ≤ w5.heap.size := Nat.le_trans hW4s hb45.size
 have hpi : PI W6 p U 0 0 (.slice o5 (W.length + 1) c5) (.slice none 0 0) (.slice none 0 0) (.slice none 0 0) (.slice none 0 0) := by
  rw [hW6]
  refine ⟨by rw [hp]; exact heap_alloc_new w5 _, ?_, fun b off cap e => ?_, by omega, by omega, fun j q hq h0 => ?_⟩
  · rw [hUl, HU.out.1]
    exact (Row.owned hown5).below (bel_new (Below.refl _ _) _)
  · rw [hUl] at e
    simp only [Value.slice.injEq, true_and] at e
    obtain ⟨rfl, rfl⟩ := e
    have := (hown5.lt b rfl).2
    omega
  · have h1 := (List.getElem?_eq_some_iff.1 hq).1
    rcases Nat.lt_or_ge (j + 1) U.length with h2 | h2
    · exact h2
    · have : j = V.length := by omega
      subst this
      exact absurd (HU.out.2.1.fin q hq) h0
 have hh6 : HoldG w W6 (.slice none 0 0) (.slice none 0 0) := by rw [hW6]; exact hh5.below (by omega) (bel_new (Below.refl _ _) _)
 have hpW6 : p < W6.heap.size := hpi.lt
 have H6 := Lib.hid (And.intro hpi hh6)
 have HW6 := Lib.hid hW6
 have HP := Lib.hid hp
 have hps : w.heap.size + 1 + 1 < p := by omega
 clear hown5 hg5 hf5 hb5 hb45 hh5 hpi hh6 hW6 hp d1 f1 d2 f2 e1 e1f
 rw [← HW6.out]
 simp only [← HP.out]
 go_loopg [] (U.length) (fun g wx => wx = W6)
 case atStart => rfl
 case round =>
  subst hrel
  obtain ⟨⟨qk, qb, qn⟩, hqq⟩ := HU.out.2.1.at H6.out.1.le
  obtain rfl : qk = 0 := HU.out.2.1.fin (qk, qb, qn) (by rw [hVl, HW0.out]; exact hqq)
  have HQ := Lib.hid hqq
  have HLI := Lib.hid (LI.start H6.out.1)
  clear hqq
  · go_wp2_with fail
    refine (peekP_any p 0 0 U _ _ _ _ _ ((0 : Int), qb, qn) _ HLI.out.x HQ.out).mono ?_
    rintro x w7 ⟨rfl, hb7⟩
    dsimp only [wdv]
    have H7 := Lib.hid (HLI.out.ch hpW6 (Ch.of hb7) (HLI.out.x.moved hb7) (Nat.le_refl _))
    clear hb7
    go_wp2_with fail
    refine (pcheck_none p 0 U _ _ _ _ _ [] [] [] wr _ hpW6 H7.out (by decide) (by decide) (fun i t h => by simp at h) (fun i t h => by simp at h) 6 (by decide) 0 (by decide) (by kernel_rfl)).mono ?_
    rintro x w8 ⟨rfl, hli8⟩
    have hw68 : wr.heap.size ≤ w8.heap.size := hli8.c.size
    have hh8 : HoldG w w8 (.slice none 0 0) (.slice none 0 0) := H6.out.2.ch (p := p) (by omega) hps hli8.c
    clear hli8
    go_wp2_with fail
    refine leaves_cons (f := 20) (args := #[.pointer (some ⟨w.heap.size, 0, none⟩), .pointer (some ⟨w.heap.size + 1, 0, none⟩), .pointer (some ⟨w.heap.size + 1 + 1, 0, none⟩)]) (by simp) (by simp [go_sem]) ?_
    refine (scatch_panic _ _ _ 6 0 _ _ _ _ w8 hh8.h0 hh8.h1 hh8.h2 (by omega) (by omega) (by omega)).mono ?_
    rintro x u' w9 ⟨rfl, rfl, K0, K1, K2, hbel⟩
    have HB := hh8.bel.trans (hbel _ (Nat.le_refl _) (by omega) (by omega) (by omega))
    obtain ⟨⟨d0, d0'⟩, g0, g0'⟩ := cells2_of' K0
    obtain ⟨d1, g1⟩ := cell1_of K1
    obtain ⟨d2, g2⟩ := cell1_of K2
    simp [Leaves, settle, results, Tryz.results10, go_sem, d0, d0', d1, d2]
    exact HB
end Go.Proofs.YtfkmajjgkdjncaaGreatDoor

set_option maxHeartbeats 4000000
set_option maxRecDepth 100000
namespace Go.Proofs.YtfkmajjgkdjncaaGreatDoor
open Go.RowKit De Wd
def SrNo (c : Int) (z : Nat) (w : World) (x : Ending) (w' : World) : Prop :=
 x = .returned (.tuple #[.agg #[.slice none 0 0, .slice none 0 0], .int .i64 c, .int .i64 z]) ∧ Below w.heap.size w w'
theorem source_first (s : ByteArray) (W : List (Nat × Wt)) (c : Int) (z : Nat) (w : World) (hs : s.size ≤ 100000) (hr : rs (sb s) = .ok W) (hp : ∀ v ∈ W.map (vw (sb s)), v.1 ≠ 0) (hWl : W.length ≤ 100000) (h0 : W ≠ [])
 (hl : ∀ p wv w0 tv rv ti ri, LI w0 w0 p (usW s W) 0 wv tv rv ti ri [] [] [] [] → VOk (W.map (vw (sb s))) (usW s W) → Calls Tryz.prog 23 #[.pointer (some ⟨p, 0, none⟩)] w0 fun x w' => x = pflt c z ∧ Ch w0 w' p) :
 Calls Tryz.prog 10 #[.string s] w (SrNo c z w) := by
 have hWp : 0 < W.length := List.length_pos_iff.2 h0
 have hmf : ∀ (fn : Fn) (first cap : Array Value) (w : World), (Instr.makeFunc fn first cap).run Tryz.prog w = .ok (.func fn first cap) w := fun _ _ _ _ => rfl
 have hfd0 : ∀ (a c : Int) (b : ByteArray) (w : World), (Instr.field 72 (.agg #[.int .i64 a, .string b, .int .i64 c]) 0).run Tryz.prog w = .ok (.int .i64 a) w := fun _ _ _ _ => by kernel_rfl
 have hV := usW_ok hp
 obtain ⟨V, hVd⟩ : ∃ V, V = W.map (vw (sb s)) := ⟨_, rfl⟩
 have hUl := usW_len s W
 have hUf := usW_flat s W
 obtain ⟨U, hU⟩ : ∃ U, U = usW s W := ⟨_, rfl⟩
 rw [← hVd, ← hU] at hV
 simp only [← hVd, ← hU] at hl
 have HLN := Lib.hid hl
 clear hl
 rw [← hVd] at hp
 rw [← hU] at hUl hUf
 have hVl : V.length = W.length := by rw [hVd]; simp
 obtain ⟨iw, hi0, hi1, hi2, hi3⟩ := infoWord
 obtain ⟨W3, hW3⟩ : ∃ W3, W3 = (((w.alloc (.cells #[.slice none 0 0, .slice none 0 0] 26)).alloc (.cells #[.int .i64 0] 3)).alloc (.cells #[.int .i64 0] 3)) := ⟨_, rfl⟩
 obtain ⟨g0, g1, g2, g3, g4⟩ := threeW w _ _ _ W3 hW3
 have hall := wordAll_any s W3 hs
 unfold AllPost at hall
 rw [hr] at hall
 have HA := Lib.hid hall
 have HU := Lib.hid (And.intro hUf (And.intro hV hp))
 have hsl : (s.size : Int) ≤ 9223372036854775807 := by omega
 have HG := Lib.hid (And.intro hW3 (And.intro g0 (And.intro g1 (And.intro g2 (And.intro g3 g4)))))
 clear hW3 g0 g1 g2 g3 g4 hall hr hUf hV hp hVd hU
 go_enter_defers Tryz.func10, Tryz.ntmps10
 go_wp2_with fail
 obtain ⟨hW3, g0, g1, g2, g3, g4⟩ := HG.out
 rw [← hW3]
 refine HA.out.mono ?_
 rintro x w4 ⟨uv, rfl, hown4, hb4⟩
 have hold4 : HoldG w w4 (.slice none 0 0) (.slice none 0 0) := HoldG.below ⟨g0, g1, g2, g4⟩ (by omega) hb4
 have hz4 := hb4.size
 obtain ⟨ou, cu, rfl⟩ := owns_slice hown4
 obtain ⟨d1, f1⟩ := cell1_of hold4.h1
 obtain ⟨d2, f2⟩ := cell1_of hold4.h2
 obtain ⟨W4, hW4⟩ : ∃ W4, W4 = ((w4.setCell ⟨w.heap.size + 1, 0, none⟩ (.int .i64 0)).setCell ⟨w.heap.size + 1 + 1, 0, none⟩ (.int .i64 0)) := ⟨_, rfl⟩
 have hh4 : HoldG w W4 (.slice none 0 0) (.slice none 0 0) := by rw [hW4]; exact hold4.zero
 have hown : W4.ownsRow W3.heap.size 72 3 (.slice ou W.length cu) W.length (wcs s W) := by
  rw [hW4]; exact owns_setOther (owns_setOther hown4 (by omega)) (by omega)
 have hz5 : W3.heap.size ≤ W4.heap.size := by rw [hW4]; simpa [World.setCell] using hz4
 have H4 := Lib.hid (And.intro hh4 (And.intro hown hW4))
 have h3s : W3.heap.size = w.heap.size + 1 + 1 + 1 := g3
 clear hh4 hown hW4 hold4 hown4 hb4 hz4 hW3 g0 g1 g2 g3 g4 HG
 have hre : (W4 = ((w4.setCell ⟨w.heap.size + 1, 0, none⟩ (.int .i64 0)).setCell ⟨w.heap.size + 1 + 1, 0, none⟩ (.int .i64 0))) := H4.out.2.2
 have HRE := Lib.hid hre
 clear hre
 obtain ⟨e1, e1f⟩ := cell1_of H4.out.1.h1
 have hW4s : w.heap.size + 1 + 1 + 1 ≤ W4.heap.size := by omega
 go_wp2_with (first | (with_reducible rw [← HRE.out]) | (at_builtin; refine wpList_append_far _ rfl _ _ 67 rfl W3.heap.size 72 iw _ 3 32 Tryz.underlying67 hi0 hi1 hi2 hi3 rfl (by decide) (.slice ou W.length cu) W.length (wcs s W) rfl (by repeat (first | exact H4.out.2.1 | refine World.ownsRow.alloc ?_ _ | refine owns_drew ?_)) _ 1 _ rfl (by exact afrow_new rfl (by simp)) rfl (by simp [Value.oneCell']) (by unfold maxLen; omega) (by omega) (by simp; omega) ?_; intro v5 w5 hown5 hg5 hf5 hb5; obtain ⟨o5, c5, rfl⟩ := owns_slice hown5))
 have hb45 : Below W3.heap.size W4 w5 := Below.trans (bel_low hz5 (bel_new (Below.refl _ _) _)) hb5
 have hh5 : HoldG w w5 (.slice none 0 0) (.slice none 0 0) := H4.out.1.below3 (by omega) hb45
 obtain ⟨W6, hW6⟩ : ∃ W6, W6 = w5.alloc (.cells #[.slice o5 (W.length + 1) c5, .int .i64 0, .int .i64 0, .slice none 0 0, .slice none 0 0, .slice none 0 0, .slice none 0 0] 74) := ⟨_, rfl⟩
 obtain ⟨p, hp⟩ : ∃ p, p = w5.heap.size := ⟨_, rfl⟩
 have hw5s : w.heap.size + 1 + 1 + 1 ≤ w5.heap.size := Nat.le_trans hW4s hb45.size
 have hpi : PI W6 p U 0 0 (.slice o5 (W.length + 1) c5) (.slice none 0 0) (.slice none 0 0) (.slice none 0 0) (.slice none 0 0) := by
  rw [hW6]
  refine ⟨by rw [hp]; exact heap_alloc_new w5 _, ?_, fun b off cap e => ?_, by omega, by omega, fun j q hq h0 => ?_⟩
  · rw [hUl, HU.out.1]
    exact (Row.owned hown5).below (bel_new (Below.refl _ _) _)
  · rw [hUl] at e
    simp only [Value.slice.injEq, true_and] at e
    obtain ⟨rfl, rfl⟩ := e
    have := (hown5.lt b rfl).2
    omega
  · have h1 := (List.getElem?_eq_some_iff.1 hq).1
    rcases Nat.lt_or_ge (j + 1) U.length with h2 | h2
    · exact h2
    · have : j = V.length := by omega
      subst this
      exact absurd (HU.out.2.1.fin q hq) h0
 have hh6 : HoldG w W6 (.slice none 0 0) (.slice none 0 0) := by rw [hW6]; exact hh5.below (by omega) (bel_new (Below.refl _ _) _)
 have hpW6 : p < W6.heap.size := hpi.lt
 have H6 := Lib.hid (And.intro hpi hh6)
 have HW6 := Lib.hid hW6
 have HP := Lib.hid hp
 have hps : w.heap.size + 1 + 1 < p := by omega
 clear hown5 hg5 hf5 hb5 hb45 hh5 hpi hh6 hW6 hp d1 f1 d2 f2 e1 e1f
 rw [← HW6.out]
 simp only [← HP.out]
 go_loopg [] (U.length) (fun g wx => wx = W6)
 case atStart => rfl
 case round =>
  subst hrel
  obtain ⟨⟨qk, qb, qn⟩, hqq⟩ := HU.out.2.1.at H6.out.1.le
  have hq0 : qk ≠ 0 := by
   have h1 := HU.out.2.1.get 0 (qk, qb, qn) hqq (by omega)
   exact HU.out.2.1.pos 0 _ h1
  have e5 : (qk == 0) = false := by simpa using hq0
  have e6 : (qk != 0) = true := by simpa using hq0
  have HQ := Lib.hid hqq
  have HLI := Lib.hid (LI.start H6.out.1)
  clear hqq
  · go_wp2_with fail
    refine (peekP_any p 0 0 U _ _ _ _ _ (qk, qb, qn) _ HLI.out.x HQ.out).mono ?_
    rintro x w7 ⟨rfl, hb7⟩
    dsimp only [wdv]
    have H7 := Lib.hid (HLI.out.ch hpW6 (Ch.of hb7) (HLI.out.x.moved hb7) (Nat.le_refl _))
    clear hb7
    go_wp2_with fail
    refine (HLN.out p _ _ _ _ _ _ (LI.start H7.out.x) HU.out.2.1).mono ?_
    rintro x w8 ⟨rfl, hc8⟩
    have hh8 : HoldG w w8 (.slice none 0 0) (.slice none 0 0) := H6.out.2.ch (p := p) (by omega) hps (H7.out.c.trans hc8)
    have hw68 : wr.heap.size ≤ w8.heap.size := (H7.out.c.trans hc8).size
    clear hc8
    go_wp2_with fail
    refine leaves_cons (f := 20) (args := #[.pointer (some ⟨w.heap.size, 0, none⟩), .pointer (some ⟨w.heap.size + 1, 0, none⟩), .pointer (some ⟨w.heap.size + 1 + 1, 0, none⟩)]) (by simp) (by simp [go_sem]) ?_
    refine (scatch_panic _ _ _ c z _ _ _ _ w8 hh8.h0 hh8.h1 hh8.h2 (by omega) (by omega) (by omega)).mono ?_
    rintro x u' w9 ⟨rfl, rfl, K0, K1, K2, hbel⟩
    have HB := hh8.bel.trans (hbel _ (Nat.le_refl _) (by omega) (by omega) (by omega))
    obtain ⟨⟨d0, d0'⟩, g0, g0'⟩ := cells2_of' K0
    obtain ⟨d1, g1⟩ := cell1_of K1
    obtain ⟨d2, g2⟩ := cell1_of K2
    simp [Leaves, settle, results, Tryz.results10, go_sem, d0, d0', d1, d2]
    exact ⟨rfl, HB⟩
end Go.Proofs.YtfkmajjgkdjncaaGreatDoor

set_option maxHeartbeats 4000000
set_option maxRecDepth 100000
namespace Go.Proofs.YtfkmajjgkdjncaaGreatDoor
open Go.RowKit De Wd
theorem paParens_in (p k d a z : Nat) (c : Int) (s : ByteArray) (L : Its) (v : Value) (w : World) (h : XI w p s L k d v) (hd : d < 40)
 (hat : ∀ w, XI w p s L k (d + 1) v → Calls Tryz.prog 30 #[.pointer (some ⟨p, 0, none⟩)] w fun x w' => x = pflt c z ∧ Ch w w' p) :
 Calls Tryz.prog 154 #[.pointer (some ⟨p, 0, none⟩), .int .i64 a] w fun x w' => x = pflt c z ∧ Ch w w' p := by
 have hplt := h.lt
 have hA := h.moved (bel_new (Below.refl _ _) (.cells #[.int .i64 0, .slice none 0 0, .slice none 0 0] 35))
 obtain ⟨W0, hW0⟩ : ∃ W0, W0 = w.alloc (.cells #[.int .i64 0, .slice none 0 0, .slice none 0 0] 35) := ⟨_, rfl⟩
 have hr0 : W0.heap[w.heap.size]? = some (.cells #[.int .i64 0, .slice none 0 0, .slice none 0 0] 35 (0, 0)) := by rw [hW0]; exact heap_alloc_new w _
 have hsW : W0.heap.size = w.heap.size + 1 := by rw [hW0]; simp
 have hcW : Ch w W0 p := by rw [hW0]; exact Ch.of (bel_new (Below.refl _ _) _)
 rw [← hW0] at hA
 obtain ⟨⟨c0, c1, c2, c3⟩, f0, f1, f2, f3⟩ := cells4_of hA.hh
 have hx1 : XI (W0.setCell ⟨p, 3, none⟩ (.int .i64 ((d : Int) + 1))) p s L k (d + 1) v := by
  have h9 := hA.deep (d' := d + 1)
  rwa [show ((d + 1 : Nat) : Int) = (d : Int) + 1 by omega] at h9
 obtain ⟨W1, hW1⟩ : ∃ W1, W1 = W0.setCell ⟨p, 3, none⟩ (.int .i64 ((d : Int) + 1)) := ⟨_, rfl⟩
 rw [← hW1] at hx1
 have hc1 : Ch W0 W1 p := by rw [hW1]; exact Ch.set _ _ _ _
 have hs1 : W1.heap.size = w.heap.size + 1 := by rw [hW1, ← hsW]; simp [World.setCell]
 have HX := Lib.hid h
 have HA := Lib.hid (And.intro hA (And.intro hr0 hcW))
 have H1 := Lib.hid (And.intro hx1 hc1)
 have HT := Lib.hid hat
 have HW0 := Lib.hid hW0
 have HW1 := Lib.hid hW1
 have t1 : ((d : Int) == 40) = false := by simp; omega
 have t2 : (d == 40) = false := by simp; omega
 have hd0 : (0 : Int) ≤ (d : Int) := by omega
 clear h hA hat hW0 hW1 hr0 hcW hx1 hc1
 go_enter Tryz.func154, Tryz.ntmps154
 go_wp2_with (with_reducible rw [← HW0.out])
 rw [← HW1.out]
 refine (HT.out _ H1.out.1).mono ?_
 rintro x w2 ⟨rfl, hch⟩
 have HF := Lib.hid ((HA.out.2.2.trans H1.out.2).trans hch)
 clear hch c0 c1 c2 c3 f0 f1 f2 f3
 go_wp2_with fail
 exact ⟨rfl, rfl, HF.out⟩
theorem paParens_end (p k d a k1 : Nat) (s : ByteArray) (L : Its) (v : Value) (e : RE) (w : World) (h : XI w p s L k d v) (hd : d < 40) (h41 : pk L k1 ≠ 41)
 (hat : ∀ w, XI w p s L k (d + 1) v → Calls Tryz.prog 30 #[.pointer (some ⟨p, 0, none⟩)] w fun x w' => ReP w w' e x ∧ Ch w w' p ∧ XI w' p s L k1 (d + 1) v) :
 Calls Tryz.prog 154 #[.pointer (some ⟨p, 0, none⟩), .int .i64 a] w fun x w' => x = pflt 3 (plc L s.size k1) ∧ Ch w w' p := by
 have hplt := h.lt
 have hA := h.moved (bel_new (Below.refl _ _) (.cells #[.int .i64 0, .slice none 0 0, .slice none 0 0] 35))
 obtain ⟨W0, hW0⟩ : ∃ W0, W0 = w.alloc (.cells #[.int .i64 0, .slice none 0 0, .slice none 0 0] 35) := ⟨_, rfl⟩
 have hr0 : W0.heap[w.heap.size]? = some (.cells #[.int .i64 0, .slice none 0 0, .slice none 0 0] 35 (0, 0)) := by rw [hW0]; exact heap_alloc_new w _
 have hsW : W0.heap.size = w.heap.size + 1 := by rw [hW0]; simp
 have hcW : Ch w W0 p := by rw [hW0]; exact Ch.of (bel_new (Below.refl _ _) _)
 rw [← hW0] at hA
 obtain ⟨⟨c0, c1, c2, c3⟩, f0, f1, f2, f3⟩ := cells4_of hA.hh
 have hx1 : XI (W0.setCell ⟨p, 3, none⟩ (.int .i64 ((d : Int) + 1))) p s L k (d + 1) v := by
  have h9 := hA.deep (d' := d + 1)
  rwa [show ((d + 1 : Nat) : Int) = (d : Int) + 1 by omega] at h9
 obtain ⟨W1, hW1⟩ : ∃ W1, W1 = W0.setCell ⟨p, 3, none⟩ (.int .i64 ((d : Int) + 1)) := ⟨_, rfl⟩
 rw [← hW1] at hx1
 have hc1 : Ch W0 W1 p := by rw [hW1]; exact Ch.set _ _ _ _
 have hs1 : W1.heap.size = w.heap.size + 1 := by rw [hW1, ← hsW]; simp [World.setCell]
 have HX := Lib.hid h
 have HA := Lib.hid (And.intro hA (And.intro hr0 hcW))
 have H1 := Lib.hid (And.intro hx1 hc1)
 have HT := Lib.hid hat
 have H41 := Lib.hid h41
 have HW0 := Lib.hid hW0
 have HW1 := Lib.hid hW1
 have t1 : ((d : Int) == 40) = false := by simp; omega
 have t2 : (d == 40) = false := by simp; omega
 have hd0 : (0 : Int) ≤ (d : Int) := by omega
 clear h hA hat h41 hW0 hW1 hr0 hcW hx1 hc1
 go_enter Tryz.func154, Tryz.ntmps154
 go_wp2_with (with_reducible rw [← HW0.out])
 rw [← HW1.out]
 refine (HT.out _ H1.out.1).mono ?_
 rintro x w2 ⟨⟨sv, lv, rfl, hkp⟩, hch, hx2⟩
 obtain ⟨⟨o1, q1, rfl⟩, ⟨o2, q2, rfl⟩⟩ := hkp.here.form
 have hr2 := (H1.out.2.trans hch).block _ (show w.heap.size < W0.heap.size by omega) (by omega) |>.trans HA.out.2.1
 have hz2 : w.heap.size < w2.heap.size := lt_of_some hr2
 have hbx : ¬ w2.heap.size = w.heap.size := by omega
 have hx3 := hx2.moved (bel_new (Below.refl _ _) (.cells #[.int .i64 e.kind, .slice o1 e.set.length q1, .slice o2 e.parts.length q2] 35))
 have hb3 := heap_alloc_new w2 (.cells #[.int .i64 e.kind, .slice o1 e.set.length q1, .slice o2 e.parts.length q2] 35)
 have H2 := Lib.hid (And.intro hkp (And.intro hch (And.intro hx3 (And.intro hr2 hb3))))
 clear hkp hch hx2 hx3 hr2 hb3 c0 c1 c2 c3 f0 f1 f2 f3
 go_wp2_with fail
 refine (skip_any p k1 (d + 1) 41 s L _ _ H2.out.2.2.1 (by decide)).mono ?_
 rintro x w4 ⟨rfl, hc4, hx4⟩
 rw [if_neg H41.out] at hx4
 rw [decide_eq_false H41.out]
 have HX4 := Lib.hid hx4
 have HF := Lib.hid (((HA.out.2.2.trans H1.out.2).trans ((H2.out.2.1).trans (Ch.of (bel_new (Below.refl _ _) _)))).trans hc4)
 clear hx4 hc4
 go_wp2_with fail
 refine (pafail_any p k1 (d + 1) s L _ _ HX4.out).mono ?_
 rintro x w5 ⟨rfl, hw5⟩
 have hw5 := hw5.symm
 subst hw5
 go_wp2_with fail
 exact ⟨rfl, rfl, HF.out⟩
theorem paParens_deep (p k d a : Nat) (s : ByteArray) (L : Its) (v : Value) (w : World) (h : XI w p s L k d v) (hd : d = 40) :
 Calls Tryz.prog 154 #[.pointer (some ⟨p, 0, none⟩), .int .i64 a] w fun x w' => x = pflt 7 a ∧ Ch w w' p := by
 have hplt := h.lt
 have hA := h.moved (bel_new (Below.refl _ _) (.cells #[.int .i64 0, .slice none 0 0, .slice none 0 0] 35))
 obtain ⟨W0, hW0⟩ : ∃ W0, W0 = w.alloc (.cells #[.int .i64 0, .slice none 0 0, .slice none 0 0] 35) := ⟨_, rfl⟩
 have hr0 : W0.heap[w.heap.size]? = some (.cells #[.int .i64 0, .slice none 0 0, .slice none 0 0] 35 (0, 0)) := by rw [hW0]; exact heap_alloc_new w _
 have hsW : W0.heap.size = w.heap.size + 1 := by rw [hW0]; simp
 have hcW : Ch w W0 p := by rw [hW0]; exact Ch.of (bel_new (Below.refl _ _) _)
 rw [← hW0] at hA
 obtain ⟨⟨c0, c1, c2, c3⟩, f0, f1, f2, f3⟩ := cells4_of hA.hh
 have HA := Lib.hid (And.intro hA (And.intro hr0 hcW))
 have HW0 := Lib.hid hW0
 have t1 : ((d : Int) == 40) = true := by simp; omega
 have t2 : (d == 40) = true := by simp; omega
 clear h hA hW0 hr0 hcW
 go_enter Tryz.func154, Tryz.ntmps154
 go_wp2_with (with_reducible rw [← HW0.out])
 exact ⟨rfl, rfl, HA.out.2.2⟩
end Go.Proofs.YtfkmajjgkdjncaaGreatDoor

set_option maxHeartbeats 4000000
set_option maxRecDepth 100000
namespace Go.Proofs.YtfkmajjgkdjncaaGreatDoor
open Go.RowKit De Wd
theorem post_bad (p k d z : Nat) (c : Int) (s : ByteArray) (L : Its) (v : Value) (w : World) (h : XI w p s L k d v)
 (hat : ∀ w, XI w p s L k d v → Calls Tryz.prog 139 #[.pointer (some ⟨p, 0, none⟩)] w fun x w' => x = pflt c z ∧ Ch w w' p) :
 Calls Tryz.prog 111 #[.pointer (some ⟨p, 0, none⟩)] w fun x w' => x = pflt c z ∧ Ch w w' p := by
 have hlt := h.lt
 have hA := h.moved (bel_new (Below.refl _ _) (.cells #[.int .i64 0, .slice none 0 0, .slice none 0 0] 35))
 have HX := Lib.hid h
 have HA := Lib.hid hA
 have HT := Lib.hid hat
 clear h hA hat
 go_enter Tryz.func111, Tryz.ntmps111
 go_wp2_with fail
 refine (HT.out _ HA.out).mono ?_
 rintro x w1 ⟨rfl, hch⟩
 have HF := Lib.hid ((Ch.of (bel_new (Below.refl _ _) (.cells #[.int .i64 0, .slice none 0 0, .slice none 0 0] 35))).trans hch)
 clear hch
 go_wp2_with fail
 exact ⟨rfl, rfl, HF.out⟩
end Go.Proofs.YtfkmajjgkdjncaaGreatDoor

set_option maxHeartbeats 4000000
set_option maxRecDepth 100000
namespace Go.Proofs.YtfkmajjgkdjncaaGreatDoor
open Go.RowKit De Wd
theorem alts_bad0 (p k d z : Nat) (c : Int) (s : ByteArray) (L : Its) (v : Value) (w : World) (h : XI w p s L k d v)
 (hat : ∀ w, XI w p s L k d v → Calls Tryz.prog 69 #[.pointer (some ⟨p, 0, none⟩)] w fun x w' => x = pflt c z ∧ Ch w w' p) :
 Calls Tryz.prog 30 #[.pointer (some ⟨p, 0, none⟩)] w fun x w' => x = pflt c z ∧ Ch w w' p := by
 have hlt := h.lt
 have hA := h.moved (bel_new (Below.refl _ _) (.cells #[.int .i64 0, .slice none 0 0, .slice none 0 0] 35))
 have HA := Lib.hid hA
 have HT := Lib.hid hat
 have HC0 := Lib.hid (Ch.of (p := p) (bel_new (Below.refl w.heap.size w) (.cells #[.int .i64 0, .slice none 0 0, .slice none 0 0] 35)))
 clear h hA hat
 go_enter Tryz.func30, Tryz.ntmps30
 go_wp2_with fail
 refine (HT.out _ HA.out).mono ?_
 rintro x w1 ⟨rfl, hch⟩
 have HF := Lib.hid (HC0.out.trans hch)
 clear hch
 go_wp2_with fail
 exact ⟨rfl, rfl, HF.out⟩
theorem alt_bad0 (p k d z : Nat) (c : Int) (s : ByteArray) (L : Its) (v : Value) (w : World) (h : XI w p s L k d v) (h128 : Sc L) (hatm : Pm.atm (pk L k) = true)
 (hat : ∀ w, XI w p s L k d v → Calls Tryz.prog 111 #[.pointer (some ⟨p, 0, none⟩)] w fun x w' => x = pflt c z ∧ Ch w w' p) :
 Calls Tryz.prog 69 #[.pointer (some ⟨p, 0, none⟩)] w fun x w' => x = pflt c z ∧ Ch w w' p := by
 have hlt := h.lt
 have hA := h.moved (bel_new (Below.refl _ _) (.cells #[.int .i64 0, .slice none 0 0, .slice none 0 0] 35))
 have HA := Lib.hid hA
 have HT := Lib.hid hat
 have HC0 := Lib.hid (Ch.of (p := p) (bel_new (Below.refl w.heap.size w) (.cells #[.int .i64 0, .slice none 0 0, .slice none 0 0] 35)))
 clear h hA hat
 go_enter Tryz.func69, Tryz.ntmps69
 go_wp2_with fail
 refine (atomNext_any p k d s L v _ HA.out h128).mono ?_
 rintro x wz ⟨rfl, hwz⟩
 rw [hatm]
 have HAZ := Lib.hid (And.intro (HA.out.moved hwz) (HC0.out.trans (Ch.of hwz)))
 clear hwz
 go_wp2_with fail
 refine (HT.out _ HAZ.out.1).mono ?_
 rintro x w1 ⟨rfl, hch⟩
 have HF := Lib.hid (HAZ.out.2.trans hch)
 clear hch
 go_wp2_with fail
 exact ⟨rfl, rfl, HF.out⟩
theorem paAtom_parB (p k d z : Nat) (c : Int) (s : ByteArray) (L : Its) (v : Value) (w : World) (h : XI w p s L k d v) (hrn : pk L k = 40) (hat : ∀ w, XI w p s L (k + 1) d v → Calls Tryz.prog 154 #[.pointer (some ⟨p, 0, none⟩), .int .i64 ((plc L s.size k : Nat) : Int)] w fun x w' => x = pflt c z ∧ Ch w w' p) :
 Calls Tryz.prog 139 #[.pointer (some ⟨p, 0, none⟩)] w fun x w' => x = pflt c z ∧ Ch w w' p := by
 have hplt := h.lt
 have hA := h.moved (bel_new (Below.refl _ _) (.cells #[.int .i64 0, .slice none 0 0, .slice none 0 0] 35))
 obtain ⟨W0, hW0⟩ : ∃ W0, W0 = w.alloc (.cells #[.int .i64 0, .slice none 0 0, .slice none 0 0] 35) := ⟨_, rfl⟩
 have hr0 : W0.heap[w.heap.size]? = some (.cells #[.int .i64 0, .slice none 0 0, .slice none 0 0] 35 (0, 0)) := by rw [hW0]; exact heap_alloc_new w _
 have hsW : W0.heap.size = w.heap.size + 1 := by rw [hW0]; simp
 have hcW : Ch w W0 p := by rw [hW0]; exact Ch.of (bel_new (Below.refl _ _) _)
 rw [← hW0] at hA
 obtain ⟨⟨c0, c1, c2, c3⟩, f0, f1, f2, f3⟩ := cells4_of hA.hh
 have hkl := pk_in' hrn (by decide)
 have hx1 : XI (W0.setCell ⟨p, 2, none⟩ (.int .i64 ((k : Int) + 1))) p s L (k + 1) d v := by
  have h9 := hA.at (k' := k + 1) (by omega)
  rwa [show ((k + 1 : Nat) : Int) = (k : Int) + 1 by omega] at h9
 obtain ⟨W1, hW1⟩ : ∃ W1, W1 = W0.setCell ⟨p, 2, none⟩ (.int .i64 ((k : Int) + 1)) := ⟨_, rfl⟩
 rw [← hW1] at hx1
 have hc1 : Ch W0 W1 p := by rw [hW1]; exact Ch.set _ _ _ _
 have hs1 : W1.heap.size = w.heap.size + 1 := by rw [hW1, ← hsW]; simp [World.setCell]
 have HX := Lib.hid h
 have HA := Lib.hid (And.intro hA (And.intro hr0 hcW))
 have H1 := Lib.hid (And.intro hx1 hc1)
 have HT := Lib.hid hat
 have HW0 := Lib.hid hW0
 have HW1 := Lib.hid hW1
 have hk0 : (0 : Int) ≤ (k : Int) := by omega
 have hsm := h.small
 have t40 : (pk L k == 40) = true := by rw [hrn]; rfl
 clear h hA hat hW0 hW1 hr0 hcW hx1 hc1 hrn
 go_enter Tryz.func139, Tryz.ntmps139
 go_wp2_with (with_reducible rw [← HW0.out])
 refine (paPlace_any p k k d s L _ _ HA.out.1).mono ?_
 rintro x w1 ⟨rfl, hw⟩
 have hw := hw.symm
 subst hw
 go_wp2_with fail
 refine (runeAt_any p k k d s L _ _ HA.out.1).mono ?_
 rintro x w1 ⟨rfl, hw⟩
 have hw := hw.symm
 subst hw
 go_wp2_with fail
 rw [← HW1.out]
 refine (HT.out _ H1.out.1).mono ?_
 rintro x w2 ⟨rfl, hch⟩
 have HF := Lib.hid ((HA.out.2.2.trans H1.out.2).trans hch)
 clear hch c0 c1 c2 c3 f0 f1 f2 f3
 go_wp2_with fail
 exact ⟨rfl, rfl, HF.out⟩
theorem alts_par {p k d z : Nat} {c : Int} {s : ByteArray} {L : Its} (hS : Sc L) (h : pk L k = 40)
 (hat : ∀ v w, XI w p s L (k + 1) d v → Calls Tryz.prog 154 #[.pointer (some ⟨p, 0, none⟩), .int .i64 ((plc L s.size k : Nat) : Int)] w fun x w' => x = pflt c z ∧ Ch w w' p) :
 ∀ v w, XI w p s L k d v → Calls Tryz.prog 30 #[.pointer (some ⟨p, 0, none⟩)] w fun x w' => x = pflt c z ∧ Ch w w' p := fun v w hx =>
 alts_bad0 p k d z c s L v w hx (fun w hx => alt_bad0 p k d z c s L v w hx hS (by rw [h]; decide) (fun w hx => post_bad p k d z c s L v w hx (fun w hx => paAtom_parB p k d z c s L v w hx h (fun w hx => hat v w hx))))
end Go.Proofs.YtfkmajjgkdjncaaGreatDoor

namespace Go.Proofs.YtfkmajjgkdjncaaGreatDoor
open Go.RowKit Ru Wd De
def td1 : RE := .mk 4 [] [.mk 2 [(97, 97)] [], .mk 5 [] [.mk 2 [(98, 98)] []]]
def tdT : List TK := [⟨⟨#[97]⟩, 0, 3, .mk 2 [(97, 97)] []⟩]
def tdR : List RU := [⟨5, false, [⟨[], .mk 5 [] [] [.mk 7 [] [] [.mk 2 [⟨#[97]⟩] [] []], .mk 4 [] [] []]⟩]⟩]
theorem td_chk : chkE tdT tdR = (0, 0) := by kernel_rfl
theorem tdT_fit : TFit tdT := by
 intro i t h
 match i, h with
 | 0, h => cases h; exact ⟨by decide, .mk 2 [(97, 97)] [] (by intro x hx; simp at hx; subst hx; exact ⟨by decide, by decide⟩) (by decide) (by decide) (fun i e h => by simp at h)⟩
 | i + 1, h => simp [tdT] at h
theorem pt_leaf (k : Int) (n : List ByteArray) (h : n.length ≤ 1000) : (PT.mk k n [] []).Fit := .mk k n [] [] h (by decide) (by decide) (fun i p h => by simp at h)
theorem pt_part1 (k : Int) (p : PT) (hp : p.Fit) : (PT.mk k [] [] [p]).Fit := .mk k [] [] [p] (by decide) (by decide) (by simp) (fun i q h => by
 match i, h with
 | 0, h => cases h; exact hp
 | i + 1, h => simp at h)
theorem pt_part2 (k : Int) (p q : PT) (hp : p.Fit) (hq : q.Fit) : (PT.mk k [] [] [p, q]).Fit := .mk k [] [] [p, q] (by decide) (by decide) (by simp) (fun i r h => by
 match i, h with
 | 0, h => cases h; exact hp
 | 1, h => cases h; exact hq
 | i + 2, h => simp at h)
theorem tdR_fit : RFit tdR := by
 intro i r h
 match i, h with
 | 0, h =>
  cases h
  refine ⟨by decide, fun j s hs => ?_⟩
  match j, hs with
  | 0, hs => cases hs; exact ⟨by decide, pt_part2 _ _ _ (pt_part1 _ _ (pt_leaf _ _ (by decide))) (pt_leaf _ _ (by decide))⟩
  | j + 1, hs => simp at hs
 | i + 1, h => simp [tdR] at h
def tdS : ByteArray := ⟨#[116, 111, 107, 32, 97, 32, 105, 110, 116, 32, 51, 32, 61, 32, 47, 97, 47, 10, 114, 117, 108, 101, 32, 53, 32, 123, 97, 125, 42, 32, 95, 10]⟩
def tdW : List (Nat × Wt) := [(0, ⟨1, 0, 3, 3⟩), (4, ⟨1, 0, 1, 1⟩), (6, ⟨1, 0, 3, 3⟩), (10, ⟨2, 0, 1, 1⟩), (12, ⟨3, 0, 1, 1⟩), (14, ⟨4, 1, 1, 3⟩), (17, ⟨5, 0, 0, 1⟩),
 (18, ⟨1, 0, 4, 4⟩), (23, ⟨2, 0, 1, 1⟩), (25, ⟨3, 0, 1, 1⟩), (26, ⟨1, 0, 1, 1⟩), (27, ⟨3, 0, 1, 1⟩), (28, ⟨3, 0, 1, 1⟩), (30, ⟨3, 0, 1, 1⟩), (31, ⟨5, 0, 0, 1⟩)]
def tdV : Pm.Ws := [(1, [116, 111, 107]), (1, [97]), (1, [105, 110, 116]), (2, [51]), (3, [61]), (4, [97]), (5, []), (1, [114, 117, 108, 101]), (2, [53]), (3, [123]), (1, [97]), (3, [125]), (3, [42]), (3, [95]), (5, [])]
theorem td_rs : rs (sb tdS) = .ok tdW := rs_asc_ok (by decide) (by decide) rfl
theorem td_v : tdW.map (vw (sb tdS)) = tdV := by decide +kernel
theorem td_a (w : World) : Calls Tryz.prog 14 #[.string ⟨#[97]⟩] w (ReOk (.mk 2 [(97, 97)] []) w) := by
 have hlow : ∀ c ∈ sb ⟨#[97]⟩, c < 128 := by decide
 have hL : all 0 (sb ⟨#[97]⟩) = [(0, ⟨97, 1, false, false, false⟩)] := by rw [all_asc _ _ hlow]; rfl
 have p0 : pk (all 0 (sb ⟨#[97]⟩)) 0 = 97 := by rw [hL]; rfl
 have p1 : pk (all 0 (sb ⟨#[97]⟩)) 1 = -1 := by rw [hL]; rfl
 have hl : (all 0 (sb ⟨#[97]⟩)).length = 1 := by rw [hL]; rfl
 have hA : Pm.Alts (all 0 (sb ⟨#[97]⟩)) (⟨#[97]⟩ : ByteArray).size (clS ⟨#[97]⟩) 0 0 (.mk 2 [(97, 97)] []) 1 :=
  .mk (.some (by rw [p0]; decide) (.mk (.one p0 (by decide)) (.stop (by rw [p1]; decide))) (.stop (by rw [p1]; decide))) (.stop (by rw [p1]; decide))
 exact re_ok ⟨#[97]⟩ _ w (by decide) (fun p v w hx => by rw [hl]; exact reads_all p ⟨#[97]⟩ _ (text_src _ hlow (by decide)) hA v w hx)
theorem td_re (w : World) : Calls Tryz.prog 14 #[.string ⟨#[97, 124, 98, 42]⟩] w (ReOk td1 w) := by
 have hlow : ∀ c ∈ sb ⟨#[97, 124, 98, 42]⟩, c < 128 := by decide
 have hL : all 0 (sb ⟨#[97, 124, 98, 42]⟩) = [(0, ⟨97, 1, false, false, false⟩), (1, ⟨124, 1, false, false, false⟩), (2, ⟨98, 1, false, false, false⟩), (3, ⟨42, 1, false, false, false⟩)] := by rw [all_asc _ _ hlow]; rfl
 have p0 : pk (all 0 (sb ⟨#[97, 124, 98, 42]⟩)) 0 = 97 := by rw [hL]; rfl
 have p1 : pk (all 0 (sb ⟨#[97, 124, 98, 42]⟩)) 1 = 124 := by rw [hL]; rfl
 have p2 : pk (all 0 (sb ⟨#[97, 124, 98, 42]⟩)) 2 = 98 := by rw [hL]; rfl
 have p3 : pk (all 0 (sb ⟨#[97, 124, 98, 42]⟩)) 3 = 42 := by rw [hL]; rfl
 have p4 : pk (all 0 (sb ⟨#[97, 124, 98, 42]⟩)) 4 = -1 := by rw [hL]; rfl
 have hl : (all 0 (sb ⟨#[97, 124, 98, 42]⟩)).length = 4 := by rw [hL]; rfl
 have hA : Pm.Alts (all 0 (sb ⟨#[97, 124, 98, 42]⟩)) (⟨#[97, 124, 98, 42]⟩ : ByteArray).size (clS ⟨#[97, 124, 98, 42]⟩) 0 0 td1 4 :=
  .mk (.some (by rw [p0]; decide) (.mk (.one p0 (by decide)) (.stop (by rw [p1]; decide))) (.stop (by rw [p1]; decide)))
   (.go p1 (.some (by rw [p2]; decide) (.mk (.one p2 (by decide)) (.go p3 (.stop (by rw [p4]; decide)))) (.stop (by rw [p4]; decide))) (.stop (by rw [p4]; decide)))
 exact re_ok ⟨#[97, 124, 98, 42]⟩ _ w (by decide) (fun p v w hx => by rw [hl]; exact reads_all p ⟨#[97, 124, 98, 42]⟩ _ (text_src _ hlow (by decide)) hA v w hx)
theorem td_par (w : World) : Calls Tryz.prog 14 #[.string ⟨#[97, 41]⟩] w fun x w' => x = .returned (.tuple #[.agg #[.int .i64 0, .slice none 0 0, .slice none 0 0], .int .i64 3, .int .i64 1]) ∧ Below w.heap.size w w' := by
 have hlow : ∀ c ∈ sb ⟨#[97, 41]⟩, c < 128 := by decide
 have hL : all 0 (sb ⟨#[97, 41]⟩) = [(0, ⟨97, 1, false, false, false⟩), (1, ⟨41, 1, false, false, false⟩)] := by rw [all_asc _ _ hlow]; rfl
 have p0 : pk (all 0 (sb ⟨#[97, 41]⟩)) 0 = 97 := by rw [hL]; rfl
 have p1 : pk (all 0 (sb ⟨#[97, 41]⟩)) 1 = 41 := by rw [hL]; rfl
 have hl : (all 0 (sb ⟨#[97, 41]⟩)).length = 2 := by rw [hL]; rfl
 have hpl : plc (all 0 (sb ⟨#[97, 41]⟩)) (⟨#[97, 41]⟩ : ByteArray).size 1 = 1 := by rw [hL]; rfl
 have hA : Pm.Alts (all 0 (sb ⟨#[97, 41]⟩)) (⟨#[97, 41]⟩ : ByteArray).size (clS ⟨#[97, 41]⟩) 0 0 (.mk 2 [(97, 97)] []) 1 :=
  .mk (.some (by rw [p0]; decide) (.mk (.one p0 (by decide)) (.stop (by rw [p1]; decide))) (.stop (by rw [p1]; decide))) (.stop (by rw [p1]; decide))
 have h := re_rest ⟨#[97, 41]⟩ _ w (by decide) 1 (by rw [hl]; decide) (fun p v w hx => reads_all p ⟨#[97, 41]⟩ _ (text_src _ hlow (by decide)) hA v w hx)
 rw [hpl] at h
 exact h
theorem td_lns : Pm.Lns tdV (fun k t => Pm.TkA tdV k t ⟨#[97]⟩ ∧ t.re = .mk 2 [(97, 97)] []) 0 tdT tdR := by
 have hp : Pm.PAlts tdV 0 9 (.mk 5 [] [] [.mk 7 [] [] [.mk 2 [⟨#[97]⟩] [] []], .mk 4 [] [] []]) 14 := by
  refine .mk (.mk (.mk (.tok rfl (.last rfl (by decide +kernel) (by decide)) rfl) (.go rfl (.stop (by unfold Pm.sg; decide)))) (.go (.inr (.inl rfl)) (.mk (.well rfl) (.stop (by unfold Pm.sg; decide))) (.stop ?_))) (.stop (by unfold Pm.sg; decide))
  unfold Pm.patm Pm.sg; decide
 refine .tok ⟨⟨rfl, rfl, rfl, by decide +kernel, rfl, rfl, by decide +kernel, .inl rfl, by decide⟩, rfl⟩ rfl (.rule ⟨rfl, by decide +kernel, by decide, fun h => (by cases h), fun _ => ⟨by decide, .last (.bare (by unfold Pm.sg; decide) hp) (by unfold Pm.sg; decide)⟩⟩ rfl (.fin rfl))
theorem td_src (w : World) : Calls Tryz.prog 10 #[.string ⟨#[116, 111, 107, 32, 97, 32, 105, 110, 116, 32, 51, 32, 61, 32, 47, 97, 47, 10, 114, 117, 108, 101, 32, 53, 32, 123, 97, 125, 42, 32, 95, 10]⟩] w (SrOk tdT tdR w) :=
 source_ok tdS tdW tdT tdR w (by decide) td_rs (by rw [td_v]; decide) _ (by rw [td_v]; exact td_lns) (by decide) (by
  rw [td_v]
  exact fun k t h => ⟨_, h.1, fun w => by rw [h.2]; exact td_a w⟩) (by decide) (by decide) tdT_fit tdR_fit (by rw [td_chk])
end Go.Proofs.YtfkmajjgkdjncaaGreatDoor

set_option maxHeartbeats 4000000
set_option maxRecDepth 100000
namespace Go.Proofs.YtfkmajjgkdjncaaGreatDoor
open Go.RowKit De Wd
theorem pline_re (p k k0 d0 : Nat) (U : List Uw) (V : Pm.Ws) (hV : VOk V U) (wv tv rv ti ri : Value) (tv0 rv0 ti0 ri0 : Value) (pst : List (TK × Value × Value)) (psr : List (RU × Value)) (lt lr : List Int) (nm tx : ByteArray) (cls c : Int) (z n5 : Nat) (w0 w : World) (h0 : PI w0 p U k0 d0 wv tv0 rv0 ti0 ri0) (hli : LI w0 w p U k wv tv rv ti ri pst psr lt lr) (hT0 : V[k]? = some (1, [116, 111, 107])) (hT : TkB V U k nm tx cls n5) (hre : ∀ w, Calls Tryz.prog 14 #[.string tx] w (ReNo c z w)) (hc0 : c ≠ 0) (hzn : n5 + 1 + z ≤ 1000000) :
 Calls Tryz.prog 23 #[.pointer (some ⟨p, 0, none⟩)] w fun x w' => x = pflt c ((n5 + 1 + z : Nat) : Int) ∧ Ch w0 w' p := by
 have hplt := hli.x.lt
 have hp0 := h0.lt
 have hkl := hli.x.le
 have hsm := hli.x.small
 have hn3 := hli.n3
 have hw00 := hli.c.size
 obtain ⟨o5, c5, hv5⟩ := owns_slice hli.it
 subst hv5
 have hfd0 : ∀ (a c : Int) (b : ByteArray) (w : World), (Instr.field 72 (.agg #[.int .i64 a, .string b, .int .i64 c]) 0).run Tryz.prog w = .ok (.int .i64 a) w := fun _ _ _ _ => by kernel_rfl
 have hfd2 : ∀ (a c : Int) (b : ByteArray) (w : World), (Instr.field 72 (.agg #[.int .i64 a, .string b, .int .i64 c]) 2).run Tryz.prog w = .ok (.int .i64 c) w := fun _ _ _ _ => by kernel_rfl
 obtain ⟨⟨qk, qb, qn⟩, hqq⟩ := hV.at hkl
 obtain ⟨e1, e2⟩ := v_name (b := ⟨#[116, 111, 107]⟩) hV hqq hT0
 dsimp only at e1 e2
 obtain rfl : (1 : Int) = qk := e1.symm
 obtain rfl : ⟨#[116, 111, 107]⟩ = qb := e2.symm
 obtain ⟨ii, hi0, hi1, hi2, hi3⟩ := infoInt
 have HLI := Lib.hid hli
 have HX0 := Lib.hid h0
 have HTA := Lib.hid (And.intro hT hT0)
 have HQ := Lib.hid hqq
 have HRE := Lib.hid hre
 clear hli h0 hT hT0 hre hqq e1 e2
 go_enter Tryz.func23, Tryz.ntmps23
 go_wp2_with fail
 refine (peekP_any p k 0 U wv tv rv (.slice o5 lt.length c5) ri ((1 : Int), ⟨#[116, 111, 107]⟩, qn) _ HLI.out.x HQ.out).mono ?_
 rintro x w1 ⟨rfl, hb1⟩
 dsimp only [wdv]
 have H1 := Lib.hid (HLI.out.ch hp0 (Ch.of hb1) (HLI.out.x.moved hb1) (Nat.le_refl _))
 clear hb1
 go_wp2_with fail
 refine (kind_any 5 _).mono ?_
 rintro x wt2 ⟨b12, rfl, hbx, hbt⟩
 have HY2 := Lib.hid (And.intro (H1.out.x.moved hbt) (And.intro hbx hbt))
 clear hbx hbt
 go_wp2_with fail
 refine (pskipK p k 0 U wv tv rv (.slice o5 lt.length c5) ri 5 b12 ((1 : Int), ⟨#[116, 111, 107]⟩, qn) _ (by decide) HY2.out.1 HQ.out HY2.out.2.1).mono ?_
 rintro x w2 ⟨rfl, hc2, hx2⟩
 replace hc2 := (Ch.of (p := p) HY2.out.2.2).trans hc2
 rw [show tsk 5 ((1 : Int), ⟨#[116, 111, 107]⟩, qn) = false from rfl] at hx2 ⊢
 rw [if_neg (by decide)] at hx2
 have H2 := Lib.hid (H1.out.ch hp0 hc2 hx2 (Nat.le_refl _))
 clear hc2 hx2
 go_wp2_with fail
 refine (text_any 1 ⟨#[116, 111, 107]⟩ _).mono ?_
 rintro x wt3 ⟨b13, b23, rfl, hbx, hbt⟩
 have HY3 := Lib.hid (And.intro (H2.out.x.moved hbt) (And.intro hbx hbt))
 clear hbx hbt
 go_wp2_with fail
 refine (pskipT p k 0 U wv tv rv (.slice o5 lt.length c5) ri 1 ⟨#[116, 111, 107]⟩ b13 b23 ((1 : Int), ⟨#[116, 111, 107]⟩, qn) _ (by decide) HY3.out.1 HQ.out HY3.out.2.1 ?_ ?_).mono ?_
 · intro e; have h1 := HY3.out.1.hh; rw [← e, HY3.out.2.1.h1] at h1; cases h1
 · intro e; have h1 := HY3.out.1.hh; rw [← e, HY3.out.2.1.h2] at h1; cases h1
 rintro x w3 ⟨rfl, hc3, hx3⟩
 replace hc3 := (Ch.of (p := p) HY3.out.2.2).trans hc3
 rw [show tst 1 ⟨#[116, 111, 107]⟩ ((1 : Int), ⟨#[116, 111, 107]⟩, qn) = true from by rw [tst_v hV HQ.out (by decide)]; exact decide_eq_true HTA.out.2] at hx3 ⊢
 rw [if_pos rfl] at hx3
 have hli4 := H2.out.ch hp0 hc3 hx3 (Nat.le_succ _)
 clear hc3 hx3
 have hpz : p < w3.heap.size := lt_of_some hli4.x.hh
 have hw09 : w0.heap.size ≤ w3.heap.size := hli4.c.size
 obtain ⟨⟨c0, c1, c2, c3, c4, c5', c6⟩, f0, f1, f2, f3, f4, f5, f6⟩ := cells7_of hli4.x.hh
 have H4 := Lib.hid hli4
 have hpn : ¬ p = w3.heap.size := by omega
 have hpn' : ¬ w3.heap.size = p := by omega
 clear hli4
 go_wp2_with (at_builtin; refine wpList_append_far _ rfl _ _ 31 rfl w0.heap.size 3 ii _ 1 8 Tryz.underlying31 hi0 hi1 hi2 hi3 rfl (by decide) (.slice o5 lt.length c5) lt.length (lt.map (Value.int .i64)) rfl (by repeat (first | exact H4.out.it | refine World.ownsRow.alloc ?_ _ | refine owns_drew ?_)) _ 1 _ rfl (by exact afrow_new rfl (by simp)) rfl (by simp [Value.oneCell']) (by unfold maxLen; omega) (by omega) (by simp; omega) ?_; intro v9 w9 hown9 hg9 hf9 hb9; obtain ⟨o9, c9, rfl⟩ := owns_slice hown9; have hp9 := (hb9.block p hp0).trans (bel_get (by repeat (first | exact Below.refl _ _ | refine Below.drew ?_ | refine bel_new ?_ _)) H4.out.x.hh); obtain ⟨⟨z0, z1, z2, z3, z4, z5, z6⟩, y0, y1, y2, y3, y4, y5, y6⟩ := cells7_of hp9)
 have hpu := LI.pushA HX0.out H4.out (q := (qn : Int)) (by repeat (first | exact Below.refl _ _ | refine Below.drew ?_ | refine bel_new ?_ _)) hown9 hg9 hf9 hb9 (by omega)
 have H5 := Lib.hid hpu
 clear hpu hown9 hg9 hf9 hb9 hp9 z0 z1 z2 z3 z4 z5 z6 y0 y1 y2 y3 y4 y5 y6 c0 c1 c2 c3 c4 c5' c6 f0 f1 f2 f3 f4 f5 f6
 refine (ptoken_re p k k0 d0 U V hV wv tv rv _ ri tv0 rv0 ti0 ri0 pst psr _ lr nm tx cls c z n5 w0 _ HX0.out H5.out HTA.out.1 HRE.out hc0 hzn).mono ?_
 rintro x w6 ⟨rfl, hc6⟩
 have HF := Lib.hid (H5.out.c.trans hc6)
 clear hc6
 go_wp2_with fail
 exact ⟨rfl, rfl, HF.out⟩
end Go.Proofs.YtfkmajjgkdjncaaGreatDoor

set_option maxHeartbeats 4000000
set_option maxRecDepth 100000
namespace Go.Proofs.YtfkmajjgkdjncaaGreatDoor
open Go.RowKit Ru Wd De
def td5 : ByteArray := ⟨#[116, 111, 107, 32, 97, 32, 105, 110, 116, 32, 51, 32, 61, 32, 47, 40, 47]⟩
def td5W : List (Nat × Wt) := [(0, ⟨1, 0, 3, 3⟩), (4, ⟨1, 0, 1, 1⟩), (6, ⟨1, 0, 3, 3⟩), (10, ⟨2, 0, 1, 1⟩), (12, ⟨3, 0, 1, 1⟩), (14, ⟨4, 1, 1, 3⟩)]
theorem td5_rs : rs (sb td5) = .ok td5W := rs_asc_ok (by decide) (by decide) rfl
theorem td_open (w : World) : Calls Tryz.prog 14 #[.string ⟨#[40]⟩] w (ReNo 3 1 w) := by
 have hlow : ∀ c ∈ sb ⟨#[40]⟩, c < 128 := by decide
 have hL : all 0 (sb ⟨#[40]⟩) = [(0, ⟨40, 1, false, false, false⟩)] := by rw [all_asc _ _ hlow]; rfl
 have p0 : pk (all 0 (sb ⟨#[40]⟩)) 0 = 40 := by rw [hL]; rfl
 have p1 : pk (all 0 (sb ⟨#[40]⟩)) 1 = -1 := by rw [hL]; rfl
 have hpl : plc (all 0 (sb ⟨#[40]⟩)) (⟨#[40]⟩ : ByteArray).size 1 = 1 := by rw [hL]; rfl
 have hS := text_src ⟨#[40]⟩ hlow (by decide)
 have hA : Pm.Alts (all 0 (sb ⟨#[40]⟩)) (⟨#[40]⟩ : ByteArray).size (clS ⟨#[40]⟩) 1 1 (.mk 1 [] []) 1 := .mk (.none (by rw [p1]; decide)) (.stop (by rw [p1]; decide))
 refine re_bad ⟨#[40]⟩ 3 1 w (by decide) (fun p v w hx => alts_par hS.sc p0 (fun v w hx => ?_) v w hx)
 have h := paParens_end p 1 0 (plc (all 0 (sb ⟨#[40]⟩)) (⟨#[40]⟩ : ByteArray).size 0) 1 ⟨#[40]⟩ _ v _ w hx (by decide) (by rw [p1]; decide) (fun w hx => reads_all p ⟨#[40]⟩ _ hS hA v w hx)
 rw [hpl] at h
 exact h
theorem td_five (w : World) : Calls Tryz.prog 10 #[.string td5] w (SrNo 3 16 w) := by
 refine source_first td5 td5W 3 16 w (by decide) td5_rs (by decide +kernel) (by decide) (by decide) ?_
 intro p wv w0 tv rv ti ri hli hV
 refine (pline_re p 0 0 0 (usW td5 td5W) (td5W.map (vw (sb td5))) hV wv tv rv ti ri tv rv ti ri [] [] [] [] ⟨#[97]⟩ ⟨#[40]⟩ 3 3 1 14 w0 w0 hli.x hli (by decide +kernel) ⟨by decide +kernel, by decide +kernel, by decide +kernel, by decide +kernel, by decide +kernel, by decide +kernel, by decide⟩ td_open (by decide) (by decide)).mono ?_
 rintro x w' ⟨rfl, hc⟩
 exact ⟨rfl, hc⟩
theorem told13_any (w : World) : Calls Tryz.prog 9 #[] w fun e w' => e = .returned (.bool true) ∧ Below w.heap.size w w' := by
 have HF := Lib.hid td_five
 unfold td5 at HF
 go_enter Tryz.func9, Tryz.ntmps9
 go_wp2_with fail
 refine (td_re _).mono ?_
 rintro x w1 ⟨s1, l1, rfl, hk1, hb1⟩
 obtain ⟨⟨o1, q1, rfl⟩, ⟨o2, q2, rfl⟩⟩ := hk1.here.form
 rw [show td1.kind = 4 from rfl]
 have hbn := bel_new (Below.refl w1.heap.size w1) (.cells #[.int .i64 4, .slice o1 td1.set.length q1, .slice o2 td1.parts.length q2] 35)
 have H1 := Lib.hid (And.intro (hk1.here.moved hbn) (And.intro (heap_alloc_new w1 (.cells #[.int .i64 4, .slice o1 td1.set.length q1, .slice o2 td1.parts.length q2] 35)) (bel_then hb1 hbn)))
 clear hk1 hb1 hbn
 go_wp2_with fail
 refine (td_par _).mono ?_
 rintro x w2 ⟨rfl, hb2⟩
 have hbn := bel_new (Below.refl w2.heap.size w2) (.cells #[.int .i64 0, .slice none 0 0, .slice none 0 0] 35)
 have hbb := bel_then hb2 hbn
 have H2 := Lib.hid (And.intro (H1.out.1.moved hbb) (And.intro (bel_get hbb H1.out.2.1) (bel_then H1.out.2.2 hbb)))
 clear hb2 hbn hbb H1
 go_wp2_with fail
 refine (td_src _).mono ?_
 rintro x w3 ⟨tv, rv, rfl, hT, hR, hb3⟩
 obtain ⟨o3, c3, nm3, kd3, cl3, rk3, so3, sn3, sc3, lo3, ln3, lc3, rfl, -⟩ := hT.all
 obtain ⟨o4, c4, rfl⟩ := hR.form
 have hbn := bel_new (Below.refl w3.heap.size w3) (.cells #[.slice o3 tdT.length c3, .slice o4 tdR.length c4] 26)
 have hbb := bel_then hb3 hbn
 have H3 := Lib.hid (And.intro (H2.out.1.moved hbb) (And.intro (bel_get hbb H2.out.2.1) (And.intro (bel_then H2.out.2.2 hbb) (And.intro (hT.moved hbn) (And.intro (hR.moved hbn) (heap_alloc_new w3 (.cells #[.slice o3 tdT.length c3, .slice o4 tdR.length c4] 26)))))))
 clear hb3 hbn hbb hT hR H2
 go_wp2_with fail
 refine (HF.out _).mono ?_
 rintro x w4 ⟨rfl, hb4⟩
 have hbn := bel_new (Below.refl w4.heap.size w4) (.cells #[.slice none 0 0, .slice none 0 0] 26)
 have hbb := bel_then hb4 hbn
 have H4 := Lib.hid (And.intro (H3.out.1.moved hbb) (And.intro (bel_get hbb H3.out.2.1) (And.intro (bel_then H3.out.2.2.1 hbb) (And.intro (H3.out.2.2.2.1.moved hbb) (And.intro (H3.out.2.2.2.2.1.moved hbb) (bel_get hbb H3.out.2.2.2.2.2))))))
 clear hb4 hbn hbb H3
 go_wp2_with fail
 refine (source_empty _).mono ?_
 rintro x w5 ⟨rfl, hb5⟩
 obtain ⟨g1, g2, g3, g4, g5, g6⟩ := And.intro (H4.out.1.moved hb5) (And.intro (bel_get hb5 H4.out.2.1) (And.intro (bel_then H4.out.2.2.1 hb5) (And.intro (H4.out.2.2.2.1.moved hb5) (And.intro (H4.out.2.2.2.2.1.moved hb5) (bel_get hb5 H4.out.2.2.2.2.2)))))
 have HB := Lib.hid (bel_then g3 (bel_new (Below.refl w5.heap.size w5) (.cells #[.slice none 0 0, .slice none 0 0] 26)))
 have k1 : w1.heap.size < w5.heap.size := lt_of_some g2
 have k3 : w3.heap.size < w5.heap.size := lt_of_some g6
 have n1 : ¬ w1.heap.size = w5.heap.size := by omega
 have n3 : ¬ w3.heap.size = w5.heap.size := by omega
 clear hb5 H4 g3
 obtain ⟨⟨a0, a1, a2⟩, _⟩ := cells3_of' g2
 obtain ⟨⟨d0, d1⟩, _⟩ := cells2_of' g6
 obtain ⟨b1, f1, q9, s9, l9, e9, hl1, p0, p1, p2, _⟩ := g1.part (i := 1) (p := .mk 5 [] [.mk 2 [(98, 98)] []]) rfl
 obtain ⟨ps, hps, hrow, _⟩ := g4
 obtain ⟨⟨t1, ta, tb⟩, rfl⟩ := List.length_eq_one_iff.1 (show ps.length = 1 by have := congrArg List.length hps; simpa [tdT] using this)
 obtain rfl : t1 = ⟨⟨#[97]⟩, 0, 3, .mk 2 [(97, 97)] []⟩ := by simpa [tdT] using hps
 obtain ⟨b2, f2, q8, e8, hl2, hc8⟩ := hrow.cells' (by decide)
 have h8 := hc8 2 (.int .i64 3) rfl
 obtain ⟨pr, hpr, hrr, hst⟩ := g5
 obtain ⟨⟨r1, ra⟩, rfl⟩ := List.length_eq_one_iff.1 (show pr.length = 1 by have := congrArg List.length hpr; simpa [tdR] using this)
 obtain rfl : r1 = ⟨5, false, [⟨[], .mk 5 [] [] [.mk 7 [] [] [.mk 2 [⟨#[97]⟩] [] []], .mk 4 [] [] []]⟩]⟩ := by simpa [tdR] using hpr
 obtain ⟨b3, f3, q7, e7, hl3, hc7⟩ := hrr.cells' (by decide)
 have h7 := hc7 2 ra rfl
 obtain ⟨pt, hpt, hrt, _⟩ := hst 0 _ rfl
 obtain ⟨⟨s1, sa⟩, rfl⟩ := List.length_eq_one_iff.1 (show pt.length = 1 by have := congrArg List.length hpt; simpa using this)
 obtain rfl : s1 = ⟨[], .mk 5 [] [] [.mk 7 [] [] [.mk 2 [⟨#[97]⟩] [] []], .mk 4 [] [] []]⟩ := by simpa using hpt
 obtain ⟨b4, f4, q6, e6, hl4, hc6⟩ := hrt.cells' (by show 0 < 1; decide)
 have h6 := hc6 1 (.int .i64 5) rfl
 dsimp only at e6
 subst e6
 simp only [Value.slice.injEq, true_and] at e9 e8 e7
 obtain ⟨rfl, rfl⟩ := e9
 obtain ⟨rfl, rfl⟩ := e8
 obtain ⟨rfl, rfl⟩ := e7
 have p3 : w5.cell? ⟨b1, f1 + 3, none⟩ = some (.int .i64 5) := by simpa [RE.kind] using p0
 clear hc6 hc7 hc8 hpt hrt hst hpr hrr hps hrow p0 p1 p2 g1 g2 g6
 rw [show td1.set.length = 0 from rfl, show td1.parts.length = 2 from rfl] at *
 rw [show tdT.length = 1 from rfl, show tdR.length = 1 from rfl] at *
 have m1 : ¬ b1 = w5.heap.size := by omega
 have m2 : ¬ b2 = w5.heap.size := by omega
 have m3 : ¬ b3 = w5.heap.size := by omega
 have m4 : ¬ b4 = w5.heap.size := by omega
 go_wp2_with fail
 go_ret
 exact ⟨rfl, HB.out⟩
end Go.Proofs.YtfkmajjgkdjncaaGreatDoor
