/- Merged. -/
import Derived.Test.YtfkmajjgkdjncaaGreatDoorPsCatch
set_option linter.unusedVariables false
set_option linter.unusedSimpArgs false
set_option maxHeartbeats 4000000
set_option maxRecDepth 100000
namespace Go.Proofs.YtfkmajjgkdjncaaGreatDoor
open Go.RowKit De Wd
abbrev pflt (c a : Int) : Ending := .panicked [{ v := .iface 65 (.agg #[.int .i64 c, .int .i64 a]), recovered := false }]
theorem pafail_any (p k d : Nat) (s : ByteArray) (L : Its) (v : Value) (w : World) (h : XI w p s L k d v) :
 Calls Tryz.prog 31 #[.pointer (some ⟨p, 0, none⟩)] w fun x w' => x = pflt 3 (plc L s.size k) ∧ w' = w := by
 obtain ⟨⟨c0, c1, c2, c3⟩, f0, f1, f2, f3⟩ := cells4_of h.hh
 have HX := Lib.hid h
 clear h
 go_enter Tryz.func31, Tryz.ntmps31
 go_wp2_with fail
 refine (paPlace_any p k k d s L v _ HX.out).mono ?_
 rintro x w1 ⟨rfl, e⟩
 subst e
 go_wp2_with fail
 exact ⟨rfl, rfl, rfl⟩
end Go.Proofs.YtfkmajjgkdjncaaGreatDoor

set_option maxHeartbeats 2000000
set_option maxRecDepth 1000000
namespace Go.Proofs.YtfkmajjgkdjncaaGreatDoor
open Go.RowKit De Wd
theorem XI.drewB {w : World} {p k d : Nat} {s : ByteArray} {L : Its} {v : Value} (h : XI w p s L k d v) (n : Nat) : XI (w.drewN n) p s L k d v :=
 have hb : Below w.heap.size w (w.drewN n) := ⟨rfl, rfl, rfl, Nat.le_refl _, fun _ _ => rfl⟩
 ⟨(hb.block _ h.lt).trans h.hh, h.row.below hb, h.far, h.le, h.small⟩
theorem re_rest (s : ByteArray) (e : RE) (w : World) (hs : s.size ≤ 100000) (m : Nat) (hm : m < (all 0 (sb s)).length)
 (hat : ∀ p v w, XI w p s (all 0 (sb s)) 0 0 v → Calls Tryz.prog 30 #[.pointer (some ⟨p, 0, none⟩)] w fun x w' => ReP w w' e x ∧ Ch w w' p ∧ XI w' p s (all 0 (sb s)) m 0 v) :
 Calls Tryz.prog 14 #[.string s] w fun x w' => x = .returned (.tuple #[.agg #[.int .i64 0, .slice none 0 0, .slice none 0 0], .int .i64 3, .int .i64 (plc (all 0 (sb s)) s.size m)]) ∧ Below w.heap.size w w' := by
 have hmf : ∀ (fn : Fn) (first cap : Array Value) (w : World), (Instr.makeFunc fn first cap).run Tryz.prog w = .ok (.func fn first cap) w := fun _ _ _ _ => rfl
 have hconv := fun w => Lib.run_convert_string_bytes (P := Tryz.prog) w 9 84 5 s Tryz.underlying9 Tryz.underlying84 Tryz.underlying5
 obtain ⟨W3, hW3⟩ : ∃ W3, W3 = (((w.alloc (.cells #[.int .i64 0, .slice none 0 0, .slice none 0 0] 35)).alloc (.cells #[.int .i64 0] 3)).alloc (.cells #[.int .i64 0] 3)) := ⟨_, rfl⟩
 obtain ⟨g0, g1, g2, g3, g4⟩ := threeW w _ _ _ W3 hW3
 have hcr := convRow W3 s (by omega)
 rw [g3] at hcr
 have hall := all_any (sb s) (.slice (some ⟨w.heap.size + 1 + 1 + 1, 0, none⟩) s.size (grownCap W3 s.size 0 5)) (Lib.bytesWorld W3 5 s) hcr (sb_u8 s) (by rw [sb_len]; omega)
 clear hcr
 have hlen := all_len 0 (sb s)
 rw [sb_len] at hlen
 obtain ⟨L, hL⟩ : ∃ L, L = all 0 (sb s) := ⟨_, rfl⟩
 rw [← hL] at hall hlen hat hm ⊢
 have HA := Lib.hid hall
 have HT := Lib.hid hat
 have HG := Lib.hid (And.intro hW3 (And.intro g0 (And.intro g1 (And.intro g2 (And.intro g3 g4)))))
 clear hW3 g0 g1 g2 g3 g4 hall hL hat
 go_enter_defers Tryz.func14, Tryz.ntmps14
 go_wp2_with fail
 obtain ⟨hW3, g0, g1, g2, g3, g4⟩ := HG.out
 rw [← hW3]
 refine HA.out.mono ?_
 rintro x w4 ⟨uv, rfl, hown4, hb4⟩
 have hbW : Below W3.heap.size W3 w4 := bel_then (convW_below W3 _ s) hb4
 have hold4 : HoldR w w4 (.int .i64 0) (.slice none 0 0) (.slice none 0 0) := HoldR.below ⟨g0, g1, g2, g4⟩ (by omega) hbW
 have hz4 := hbW.size
 obtain ⟨p, hp⟩ : ∃ p, p = w4.heap.size := ⟨_, rfl⟩
 obtain ⟨ou, cu, rfl⟩ := owns_slice hown4
 have hlow : ∀ b off cap, Value.slice ou L.length cu = .slice (some ⟨b, off, none⟩) L.length cap → b < p ∧ w.heap.size + 1 + 1 < b := fun b off cap e => by
  simp only [Value.slice.injEq, true_and] at e
  obtain ⟨rfl, rfl⟩ := e
  have h1 := (hown4.lt b rfl).2
  have h2 := (hown4.lt b rfl).1
  rw [Lib.bytesWorld_size] at h2
  omega
 have hxi : XI (w4.alloc (.cells #[.string s, .slice ou L.length cu, .int .i64 ((0 : Nat) : Int), .int .i64 ((0 : Nat) : Int)] 86)) p s L 0 0 (.slice ou L.length cu) :=
  ⟨by rw [hp]; exact heap_alloc_new _ _, (Row.owned hown4).below (bel_new (Below.refl _ _) _), fun b off cap e => by have := hlow b off cap e; omega, Nat.zero_le _, by omega⟩
 have hh5 := hold4.below (by omega) (bel_new (Below.refl _ _) (.cells #[.string s, .slice ou L.length cu, .int .i64 ((0 : Nat) : Int), .int .i64 ((0 : Nat) : Int)] 86))
 obtain ⟨W5, hW5⟩ : ∃ W5, W5 = w4.alloc (.cells #[.string s, .slice ou L.length cu, .int .i64 ((0 : Nat) : Int), .int .i64 ((0 : Nat) : Int)] 86) := ⟨_, rfl⟩
 rw [← hW5] at hxi hh5
 have hpl2 : w.heap.size + 1 + 1 < p := by omega
 have hs5 : w.heap.size + 1 + 1 < W5.heap.size := by rw [hW5]; simp; omega
 have H5 := Lib.hid (And.intro hxi (And.intro hh5 (And.intro hW5 hp)))
 have HLOW := Lib.hid hlow
 clear hxi hh5 hown4 hb4 hbW hold4 g0 g1 g2 g3 g4 hW3 hconv HG hp hz4 hW5 hlow
 go_wp2_with fail
 rw [← H5.out.2.2.2]
 have hW5 := H5.out.2.2.1
 simp only [Int.natCast_zero, Int.ofNat_zero] at hW5
 rw [← hW5]
 clear hW5
 refine (HT.out p _ _ H5.out.1).mono ?_
 rintro x w6 ⟨⟨sv, lv, rfl, hkp⟩, hch, hx6⟩
 obtain ⟨⟨o1, q1, rfl⟩, ⟨o2, q2, rfl⟩⟩ := hkp.here.form
 have hh6 := H5.out.2.1.ch hs5 hpl2 hch
 have hs6 : W5.heap.size ≤ w6.heap.size := hch.size
 obtain ⟨X, hX⟩ : ∃ X, X = ((w6.setCell ⟨w.heap.size, 0, none⟩ (.int .i64 e.kind)).setCell ⟨w.heap.size, 1, none⟩ (.slice o1 e.set.length q1)).setCell ⟨w.heap.size, 2, none⟩ (.slice o2 e.parts.length q2) := ⟨_, rfl⟩
 have hpe : p ≠ w.heap.size := by omega
 have hfr : ∀ b off cap, Value.slice ou L.length cu = .slice (some ⟨b, off, none⟩) L.length cap → b ≠ w.heap.size := fun b off cap e0 => by have := HLOW.out b off cap e0; omega
 have hhX : HoldR w X (.int .i64 e.kind) (.slice o1 e.set.length q1) (.slice o2 e.parts.length q2) := by rw [hX]; exact hh6.set
 have hxX : XI X p s L m 0 (.slice ou L.length cu) := by rw [hX]; exact ((hx6.setOther hpe hfr).setOther hpe hfr).setOther hpe hfr
 have hkX : KP (fun k => W5.heap.size ≤ k) X (fun w2 => ReIs w2 e (.slice o1 e.set.length q1) (.slice o2 e.parts.length q2)) := by
  rw [hX]
  refine hkp.to ((((Ag.refl _ _).setCell (fun h => ?_) _).setCell (fun h => ?_) _).setCell (fun h => ?_) _)
  all_goals (have h9 : W5.heap.size ≤ w.heap.size := h; omega)
 have hsX : W5.heap.size ≤ X.heap.size := by rw [hX]; simpa [World.setCell] using hs6
 obtain ⟨⟨d0, d1, d2⟩, f0, f1, f2⟩ := cells3_of' hh6.h0
 have HX := Lib.hid (And.intro hhX (And.intro hxX (And.intro hkX hX)))
 clear hhX hxX hkX hX hh6 hx6 hkp hch hfr
 go_wp2_with fail
 rw [← HX.out.2.2.2]
 clear d0 d1 d2 f0 f1 f2
 obtain ⟨⟨c0, c1, c2, c3⟩, f0, f1, f2, f3⟩ := cells4_of HX.out.2.1.hh
 have hl0 : (0 : Int) ≤ (m : Int) := by omega
 have e1 : decide ((m : Int) < (L.length : Int)) = true := by simp; omega
 have e2 : decide (m < L.length) = true := by simp; omega
 go_quiet (fail)
 clear c0 c1 c2 c3 f0 f1 f2 f3
 have hh7 := HX.out.1.ch (p := p) (by omega) hpl2 (Ch.drewN p nq)
 have hx7 := HX.out.2.1.drewB nq
 generalize X.drewN nq = Y at hh7 hx7 ⊢
 have HY := Lib.hid (And.intro hh7 hx7)
 clear hh7 hx7
 go_wp2_with fail
 refine (pafail_any p m 0 s L _ Y HY.out.2).mono ?_
 rintro x w8 ⟨rfl, e9⟩
 subst e9
 go_wp2_with fail
 have hh8 := HY.out.1
 refine leaves_cons (f := 28) (args := #[.pointer (some ⟨w.heap.size, 0, none⟩), .pointer (some ⟨w.heap.size + 1, 0, none⟩), .pointer (some ⟨w.heap.size + 1 + 1, 0, none⟩)]) (by simp) (by simp [go_sem]) ?_
 refine (pcatch_panic _ _ _ 3 (plc L s.size m) _ _ _ _ _ _ hh8.h0 hh8.h1 hh8.h2 (by omega) (by omega) (by omega)).mono ?_
 rintro x u' w9 ⟨rfl, rfl, K0, K1, K2, hbel⟩
 have hz := lt_of_some hh8.h2
 have HB := hh8.bel.trans (hbel _ (Nat.le_refl _) (by omega) (by omega) (by omega))
 obtain ⟨⟨d0, d0', d0''⟩, g0, g0', g0''⟩ := cells3_of' K0
 obtain ⟨d1, g1⟩ := cell1_of K1
 obtain ⟨d2, g2⟩ := cell1_of K2
 simp [Leaves, settle, results, Tryz.results14, go_sem, d0, d0', d0'', d1, d2]
 exact HB
end Go.Proofs.YtfkmajjgkdjncaaGreatDoor

set_option maxHeartbeats 2000000
set_option maxRecDepth 1000000
namespace Go.Proofs.YtfkmajjgkdjncaaGreatDoor
open Go.RowKit De Wd
def ReNo (c : Int) (z : Nat) (w : World) (x : Ending) (w' : World) : Prop :=
 x = .returned (.tuple #[.agg #[.int .i64 0, .slice none 0 0, .slice none 0 0], .int .i64 c, .int .i64 z]) ∧ Below w.heap.size w w'
theorem re_bad (s : ByteArray) (c : Int) (z : Nat) (w : World) (hs : s.size ≤ 100000)
 (hat : ∀ p v w, XI w p s (all 0 (sb s)) 0 0 v → Calls Tryz.prog 30 #[.pointer (some ⟨p, 0, none⟩)] w fun x w' => x = pflt c z ∧ Ch w w' p) :
 Calls Tryz.prog 14 #[.string s] w (ReNo c z w) := by
 have hmf : ∀ (fn : Fn) (first cap : Array Value) (w : World), (Instr.makeFunc fn first cap).run Tryz.prog w = .ok (.func fn first cap) w := fun _ _ _ _ => rfl
 have hconv := fun w => Lib.run_convert_string_bytes (P := Tryz.prog) w 9 84 5 s Tryz.underlying9 Tryz.underlying84 Tryz.underlying5
 obtain ⟨W3, hW3⟩ : ∃ W3, W3 = (((w.alloc (.cells #[.int .i64 0, .slice none 0 0, .slice none 0 0] 35)).alloc (.cells #[.int .i64 0] 3)).alloc (.cells #[.int .i64 0] 3)) := ⟨_, rfl⟩
 obtain ⟨g0, g1, g2, g3, g4⟩ := threeW w _ _ _ W3 hW3
 have hcr := convRow W3 s (by omega)
 rw [g3] at hcr
 have hall := all_any (sb s) (.slice (some ⟨w.heap.size + 1 + 1 + 1, 0, none⟩) s.size (grownCap W3 s.size 0 5)) (Lib.bytesWorld W3 5 s) hcr (sb_u8 s) (by rw [sb_len]; omega)
 clear hcr
 have hlen := all_len 0 (sb s)
 rw [sb_len] at hlen
 obtain ⟨L, hL⟩ : ∃ L, L = all 0 (sb s) := ⟨_, rfl⟩
 rw [← hL] at hall hlen hat
 have HA := Lib.hid hall
 have HT := Lib.hid hat
 have HG := Lib.hid (And.intro hW3 (And.intro g0 (And.intro g1 (And.intro g2 (And.intro g3 g4)))))
 clear hW3 g0 g1 g2 g3 g4 hall hL hat
 go_enter_defers Tryz.func14, Tryz.ntmps14
 go_wp2_with fail
 obtain ⟨hW3, g0, g1, g2, g3, g4⟩ := HG.out
 rw [← hW3]
 refine HA.out.mono ?_
 rintro x w4 ⟨uv, rfl, hown4, hb4⟩
 have hbW : Below W3.heap.size W3 w4 := bel_then (convW_below W3 _ s) hb4
 have hold4 : HoldR w w4 (.int .i64 0) (.slice none 0 0) (.slice none 0 0) := HoldR.below ⟨g0, g1, g2, g4⟩ (by omega) hbW
 have hz4 := hbW.size
 obtain ⟨p, hp⟩ : ∃ p, p = w4.heap.size := ⟨_, rfl⟩
 obtain ⟨ou, cu, rfl⟩ := owns_slice hown4
 have hlow : ∀ b off cap, Value.slice ou L.length cu = .slice (some ⟨b, off, none⟩) L.length cap → b < p ∧ w.heap.size + 1 + 1 < b := fun b off cap e => by
  simp only [Value.slice.injEq, true_and] at e
  obtain ⟨rfl, rfl⟩ := e
  have h1 := (hown4.lt b rfl).2
  have h2 := (hown4.lt b rfl).1
  rw [Lib.bytesWorld_size] at h2
  omega
 have hxi : XI (w4.alloc (.cells #[.string s, .slice ou L.length cu, .int .i64 ((0 : Nat) : Int), .int .i64 ((0 : Nat) : Int)] 86)) p s L 0 0 (.slice ou L.length cu) :=
  ⟨by rw [hp]; exact heap_alloc_new _ _, (Row.owned hown4).below (bel_new (Below.refl _ _) _), fun b off cap e => by have := hlow b off cap e; omega, Nat.zero_le _, by omega⟩
 have hh5 := hold4.below (by omega) (bel_new (Below.refl _ _) (.cells #[.string s, .slice ou L.length cu, .int .i64 ((0 : Nat) : Int), .int .i64 ((0 : Nat) : Int)] 86))
 obtain ⟨W5, hW5⟩ : ∃ W5, W5 = w4.alloc (.cells #[.string s, .slice ou L.length cu, .int .i64 ((0 : Nat) : Int), .int .i64 ((0 : Nat) : Int)] 86) := ⟨_, rfl⟩
 rw [← hW5] at hxi hh5
 have hpl2 : w.heap.size + 1 + 1 < p := by omega
 have hs5 : w.heap.size + 1 + 1 < W5.heap.size := by rw [hW5]; simp; omega
 have H5 := Lib.hid (And.intro hxi (And.intro hh5 (And.intro hW5 hp)))
 have HLOW := Lib.hid hlow
 clear hxi hh5 hown4 hb4 hbW hold4 g0 g1 g2 g3 g4 hW3 hconv HG hp hz4 hW5 hlow
 go_wp2_with fail
 rw [← H5.out.2.2.2]
 have hW5 := H5.out.2.2.1
 simp only [Int.natCast_zero, Int.ofNat_zero] at hW5
 rw [← hW5]
 clear hW5
 refine (HT.out p _ _ H5.out.1).mono ?_
 rintro x w6 ⟨rfl, hch⟩
 have HH := Lib.hid (H5.out.2.1.ch hs5 hpl2 hch)
 clear hch
 go_wp2_with fail
 have hh8 := HH.out
 refine leaves_cons (f := 28) (args := #[.pointer (some ⟨w.heap.size, 0, none⟩), .pointer (some ⟨w.heap.size + 1, 0, none⟩), .pointer (some ⟨w.heap.size + 1 + 1, 0, none⟩)]) (by simp) (by simp [go_sem]) ?_
 refine (pcatch_panic _ _ _ c z _ _ _ _ _ _ hh8.h0 hh8.h1 hh8.h2 (by omega) (by omega) (by omega)).mono ?_
 rintro x u' w9 ⟨rfl, rfl, K0, K1, K2, hbel⟩
 have hz := lt_of_some hh8.h2
 have HB := hh8.bel.trans (hbel _ (Nat.le_refl _) (by omega) (by omega) (by omega))
 obtain ⟨⟨d0, d0', d0''⟩, g0, g0', g0''⟩ := cells3_of' K0
 obtain ⟨d1, g1⟩ := cell1_of K1
 obtain ⟨d2, g2⟩ := cell1_of K2
 simp [Leaves, settle, results, Tryz.results14, go_sem, d0, d0', d0'', d1, d2]
 exact ⟨rfl, HB⟩
end Go.Proofs.YtfkmajjgkdjncaaGreatDoor

set_option maxHeartbeats 4000000
set_option maxRecDepth 100000
namespace Go.Proofs.YtfkmajjgkdjncaaGreatDoor
open Go.RowKit De Wd
structure TkB (V : Pm.Ws) (U : List Uw) (k : Nat) (nm tx : ByteArray) (cls : Int) (n5 : Nat) : Prop where
 w1 : V[k + 1]? = some (1, sb nm)
 w2 : V[k + 2]? = some (1, sb ⟨#[105, 110, 116]⟩)
 w3 : V[k + 3]? = some (2, sb (decB cls))
 w4 : Pm.sg V (k + 4) 61
 u5 : U[k + 5]? = some (4, tx, n5)
 nm : namB nm = true
 cl : 0 ≤ cls ∧ cls ≤ 31
theorem ptoken_re (p k k0 d0 : Nat) (U : List Uw) (V : Pm.Ws) (hV : VOk V U) (wv tv rv ti ri : Value) (tv0 rv0 ti0 ri0 : Value) (pst : List (TK × Value × Value)) (psr : List (RU × Value)) (lt lr : List Int) (nm tx : ByteArray) (cls c : Int) (z n5 : Nat) (w0 w : World) (h0 : PI w0 p U k0 d0 wv tv0 rv0 ti0 ri0) (hli : LI w0 w p U (k + 1) wv tv rv ti ri pst psr lt lr) (hT : TkB V U k nm tx cls n5) (hre : ∀ w, Calls Tryz.prog 14 #[.string tx] w (ReNo c z w)) (hc0 : c ≠ 0) (hzn : n5 + 1 + z ≤ 1000000) :
 Calls Tryz.prog 56 #[.pointer (some ⟨p, 0, none⟩)] w fun x w' => x = pflt c ((n5 + 1 + z : Nat) : Int) ∧ Ch w w' p := by
 have h := hli.x
 have hplt := h.lt
 have hp0 := h0.lt
 have hw00 := hli.c.size
 have HTV := Lib.hid (owns_slice hli.tk.row)
 have HLI := Lib.hid hli
 have HX0 := Lib.hid h0
 have HX := Lib.hid h
 have HTA := Lib.hid hT
 obtain ⟨ir, hr0', hr1, hr2, hr3⟩ := infoToken
 have HRE := Lib.hid hre
 have e5 : (c == 0) = false := by simpa using hc0
 have e6 : (c != 0) = true := by simpa using hc0
 have EQ := Lib.hid (show (n5 : Int) + 1 + (z : Int) = ((n5 + 1 + z : Nat) : Int) by omega)
 have hn0 : (0 : Int) ≤ (n5 : Int) := by omega
 have hn9 : (n5 : Int) ≤ 1000000 := by omega
 have hz0 : (0 : Int) ≤ (z : Int) := by omega
 have hz9 : (z : Int) ≤ 1000000 := by omega
 clear hli h0 h hT hre
 go_enter Tryz.func56, Tryz.ntmps56
 go_wp2_with fail
 refine (pname_any p (k + 1) 0 U V hV wv tv rv ti ri nm _ HX.out HTA.out.w1 HTA.out.nm).mono ?_
 rintro x w1 ⟨rfl, hc1, hx1⟩
 obtain ⟨tb, htb⟩ : ∃ tb, tb = w1.heap.size := ⟨_, rfl⟩
 have hs1 := hc1.size
 have hwt : w.heap.size ≤ tb := by omega
 have htp : tb ≠ p := by omega
 obtain ⟨W1, hW1⟩ : ∃ W1, W1 = w1.alloc (.cells #[.string nm, .int .i64 0, .int .i64 0, .int .i64 0, .slice none 0 0, .slice none 0 0] 54) := ⟨_, rfl⟩
 have hti : TI w W1 p tb U (k + 2) wv tv rv ti ri (.string nm) (.int .i64 0) (.int .i64 0) (.int .i64 0) (.slice none 0 0) (.slice none 0 0) := by
  have hb := bel_new (Below.refl w1.heap.size w1) (.cells #[.string nm, .int .i64 0, .int .i64 0, .int .i64 0, .slice none 0 0, .slice none 0 0] 54)
  rw [hW1]
  exact ⟨hx1.moved hb, hc1.trans (Ch.of hb), by rw [htb]; exact heap_alloc_new w1 _⟩
 have H1 := Lib.hid hti
 have HW1 := Lib.hid hW1
 have HTB := Lib.hid htb
 clear hti hW1 htb hc1 hx1
 go_wp2_with (with_reducible rw [← HW1.out])
 simp only [← HTB.out]
 obtain ⟨q2, hq2⟩ := hV.at H1.out.x.le
 have hsg2 := tst_v hV hq2 (kk := 1) (by decide) ⟨#[99, 97, 108, 108]⟩
 rw [decide_eq_false (fun e => by rw [HTA.out.w2] at e; revert e; decide)] at hsg2
 have HQ2 := Lib.hid hq2
 have HT2 := Lib.hid hsg2
 clear hq2 hsg2
 refine (text_any 1 ⟨#[99, 97, 108, 108]⟩ _).mono ?_
 rintro x wt2 ⟨b12, b22, rfl, hbx, hbt⟩
 have HY2 := Lib.hid (And.intro (H1.out.x.moved hbt) (And.intro hbx hbt))
 clear hbx hbt
 go_wp2_with fail
 refine (pskipT p (k + 2) 0 U wv tv rv ti ri 1 ⟨#[99, 97, 108, 108]⟩ b12 b22 q2 _ (by decide) HY2.out.1 HQ2.out HY2.out.2.1 ?_ ?_).mono ?_
 · intro e; have h1 := HY2.out.1.hh; rw [← e, HY2.out.2.1.h1] at h1; cases h1
 · intro e; have h1 := HY2.out.1.hh; rw [← e, HY2.out.2.1.h2] at h1; cases h1
 rintro x w2 ⟨rfl, hc2, hx2⟩
 replace hc2 := (Ch.of (p := p) HY2.out.2.2).trans hc2
 rw [HT2.out] at hx2 ⊢
 rw [if_neg (by decide)] at hx2
 have hi2 := H1.out.to hc2 hx2 htp
 clear hx2 hc2
 have H2 := Lib.hid hi2
 clear hi2
 go_wp2_with fail
 obtain ⟨q3, hq3⟩ := hV.at H2.out.x.le
 have hsg3 := tst_v hV hq3 (kk := 1) (by decide) ⟨#[114, 101, 116]⟩
 rw [decide_eq_false (fun e => by rw [HTA.out.w2] at e; revert e; decide)] at hsg3
 have HQ3 := Lib.hid hq3
 have HT3 := Lib.hid hsg3
 clear hq3 hsg3
 refine (text_any 1 ⟨#[114, 101, 116]⟩ _).mono ?_
 rintro x wt3 ⟨b13, b23, rfl, hbx, hbt⟩
 have HY3 := Lib.hid (And.intro (H2.out.x.moved hbt) (And.intro hbx hbt))
 clear hbx hbt
 go_wp2_with fail
 refine (pskipT p (k + 2) 0 U wv tv rv ti ri 1 ⟨#[114, 101, 116]⟩ b13 b23 q3 _ (by decide) HY3.out.1 HQ3.out HY3.out.2.1 ?_ ?_).mono ?_
 · intro e; have h1 := HY3.out.1.hh; rw [← e, HY3.out.2.1.h1] at h1; cases h1
 · intro e; have h1 := HY3.out.1.hh; rw [← e, HY3.out.2.1.h2] at h1; cases h1
 rintro x w3 ⟨rfl, hc3, hx3⟩
 replace hc3 := (Ch.of (p := p) HY3.out.2.2).trans hc3
 rw [HT3.out] at hx3 ⊢
 rw [if_neg (by decide)] at hx3
 have hi3 := H2.out.to hc3 hx3 htp
 clear hx3 hc3
 have H3 := Lib.hid hi3
 obtain ⟨q4, hq4⟩ := hV.at hi3.x.le
 have ht4 : tst 1 ⟨#[105, 110, 116]⟩ q4 = true := by rw [tst_v hV hq4 (by decide)]; exact decide_eq_true HTA.out.w2
 have HQ4 := Lib.hid hq4
 have HS4 := Lib.hid ht4
 clear hi3 hq4 ht4
 go_wp2_with fail
 refine (text_any 1 ⟨#[105, 110, 116]⟩ _).mono ?_
 rintro x wt4 ⟨b14, b24, rfl, hbx, hbt⟩
 have HT4 := Lib.hid (And.intro (H3.out.x.moved hbt) (And.intro hbx hbt))
 clear hbx hbt
 go_wp2_with fail
 refine (ptakeT p (k + 2) 0 U wv tv rv ti ri 1 ⟨#[105, 110, 116]⟩ b14 b24 q4 _ (by decide) HT4.out.1 HQ4.out HT4.out.2.1 ?_ ?_ HS4.out).mono ?_
 · intro e; have h1 := HT4.out.1.hh; rw [← e, HT4.out.2.1.h1] at h1; cases h1
 · intro e; have h1 := HT4.out.1.hh; rw [← e, HT4.out.2.1.h2] at h1; cases h1
 rintro x w4 ⟨rfl, hc4, hx4⟩
 replace hc4 := (Ch.of (p := p) HT4.out.2.2).trans hc4
 have H4 := Lib.hid (H3.out.to hc4 hx4 htp)
 clear hc4 hx4
 go_wp2_with fail
 refine (pclass_any p (k + 3) 0 U V hV wv tv rv ti ri cls _ H4.out.x HTA.out.w3 HTA.out.cl).mono ?_
 rintro x w5 ⟨rfl, hc5, hx5⟩
 have hi5 := H4.out.to hc5 hx5 htp
 obtain ⟨⟨d0, d1, d2, d3, d4, d5⟩, g0, g1, g2, g3, g4, g5⟩ := cells6_of' hi5.ht
 obtain ⟨W5, hW5⟩ : ∃ W5, W5 = w5.setCell ⟨tb, 2, none⟩ (.int .i64 cls) := ⟨_, rfl⟩
 have hi5' := hi5.set2 HX.out (.int .i64 cls) hwt
 rw [← hW5] at hi5'
 have H5 := Lib.hid hi5'
 have HW5 := Lib.hid hW5
 obtain ⟨q6, hq6⟩ := hV.at hi5'.x.le
 have ht6 : tst 3 ⟨#[61]⟩ q6 = true := by rw [sg_v hV hq6 61]; exact decide_eq_true HTA.out.w4
 have HQ6 := Lib.hid hq6
 have HS6 := Lib.hid ht6
 clear hi5 hi5' hc5 hx5 hW5 hq6 ht6
 go_wp2_with (with_reducible rw [← HW5.out])
 clear d0 d1 d2 d3 d4 d5 g0 g1 g2 g3 g4 g5
 refine (text_any 3 ⟨#[61]⟩ _).mono ?_
 rintro x wt6 ⟨b16, b26, rfl, hbx, hbt⟩
 have HT6 := Lib.hid (And.intro (H5.out.x.moved hbt) (And.intro hbx hbt))
 clear hbx hbt
 go_wp2_with fail
 refine (ptakeT p (k + 4) 0 U wv tv rv ti ri 3 ⟨#[61]⟩ b16 b26 q6 _ (by decide) HT6.out.1 HQ6.out HT6.out.2.1 ?_ ?_ HS6.out).mono ?_
 · intro e; have h1 := HT6.out.1.hh; rw [← e, HT6.out.2.1.h1] at h1; cases h1
 · intro e; have h1 := HT6.out.1.hh; rw [← e, HT6.out.2.1.h2] at h1; cases h1
 rintro x w6 ⟨rfl, hc6, hx6⟩
 replace hc6 := (Ch.of (p := p) HT6.out.2.2).trans hc6
 have hi6 := H5.out.to hc6 hx6 htp
 have H6 := Lib.hid hi6
 have HQ7 := Lib.hid HTA.out.u5
 have HS7 := Lib.hid (show tsk 4 ((4 : Int), tx, n5) = true from rfl)
 clear hi6 hc6 hx6
 go_wp2_with fail
 refine (kind_any 4 _).mono ?_
 rintro x wt7 ⟨b17, rfl, hbx, hbt⟩
 have HT7 := Lib.hid (And.intro (H6.out.x.moved hbt) (And.intro hbx hbt))
 clear hbx hbt
 go_wp2_with fail
 refine (ptakeK p (k + 5) 0 U wv tv rv ti ri 4 b17 ((4 : Int), tx, n5) _ (by decide) HT7.out.1 HQ7.out HT7.out.2.1 HS7.out).mono ?_
 rintro x w7 ⟨rfl, hc7, hx7⟩
 replace hc7 := (Ch.of (p := p) HT7.out.2.2).trans hc7
 have hbel := bel_new (Below.refl w7.heap.size w7) (.cells #[.int .i64 4, .string tx, .int .i64 n5] 72)
 have hi7 := (H6.out.to hc7 hx7 htp).to (Ch.of hbel) ((H6.out.to hc7 hx7 htp).x.moved hbel) htp
 have hge := heap_alloc_new w7 (.cells #[.int .i64 4, .string tx, .int .i64 n5] 72)
 obtain ⟨W7, hW7⟩ : ∃ W7, W7 = w7.alloc (.cells #[.int .i64 4, .string tx, .int .i64 n5] 72) := ⟨_, rfl⟩
 rw [← hW7] at hi7 hge
 obtain ⟨⟨u0, u1, u2⟩, m0, m1, m2⟩ := cells3_of' hge
 have HGE := Lib.hid hge
 have htW7 : tb < W7.heap.size := lt_of_some hi7.ht
 have H7 := Lib.hid hi7
 have HW7 := Lib.hid hW7
 clear hbel hi7 hge hc7 hx7 hW7
 go_wp2_with (with_reducible rw [← HW7.out])
 refine (HRE.out _).mono ?_
 rintro x w8 ⟨rfl, hb8⟩
 have hi8 := H7.out.to (Ch.of hb8) (H7.out.x.moved hb8) htp
 have HF := Lib.hid hi8.c
 have hg8 := bel_get hb8 HGE.out
 obtain ⟨⟨v0, v1, v2⟩, y0, y1, y2⟩ := cells3_of' hg8
 have hlt9 : w7.heap.size < w8.heap.size := lt_of_some hg8
 have hne9 : ¬ w7.heap.size = w8.heap.size := by omega
 clear hi8 hb8 hg8 u0 u1 u2 m0 m1 m2
 go_wp2_with fail
 refine ⟨rfl, ?_, HF.out.trans (Ch.of (bel_new (Below.refl _ _) _))⟩
 rw [← EQ.out]
end Go.Proofs.YtfkmajjgkdjncaaGreatDoor
