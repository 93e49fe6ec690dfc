import Derived.Test.YtfkmajjgkdjncaaGreatDoorClsFull
import Derived.Test.YtfkmajjgkdjncaaGreatDoorCls
set_option linter.unusedVariables false
set_option linter.unusedSimpArgs false
set_option maxHeartbeats 8000000
set_option maxRecDepth 1000000
namespace Go.Proofs.YtfkmajjgkdjncaaGreatDoor
open Go.RowKit De Wd
namespace Wd
def elsF (L : Its) : Nat → List Ru.Pc → Nat → Except Nat (List Ru.Pc)
 | 0, _, _ => .error 0
 | f + 1, acc, k => if acc ≠ [] ∧ L.length ≤ k then .ok acc else match elF L k with
  | .error j => .error j
  | .ok (q, k') => elsF L f (acc ++ [q]) k'
def clsF (L : Its) (n : Nat) : Cr :=
 match elsF L (L.length + 2) [] (if pk L 0 = 94 then 1 else 0) with
 | .error j => .bad (plc L n j)
 | .ok acc => if (if pk L 0 = 94 then Ru.nt acc else Ru.nrm acc) = [] then .bad n else .ok (if pk L 0 = 94 then Ru.nt acc else Ru.nrm acc)
theorem elsF_stop {L : Its} {f k : Nat} {acc : List Ru.Pc} (ha : acc ≠ []) (hk : L.length ≤ k) : elsF L (f + 1) acc k = .ok acc := by
 simp only [elsF]; rw [if_pos ⟨ha, hk⟩]
theorem elsF_bad {L : Its} {f k j : Nat} {acc : List Ru.Pc} (ha : ¬ (acc ≠ [] ∧ L.length ≤ k)) (h : elF L k = .error j) : elsF L (f + 1) acc k = .error j := by
 simp only [elsF]; rw [if_neg ha, h]
theorem elsF_go {L : Its} {f k k' : Nat} {acc : List Ru.Pc} {q : Ru.Pc} (ha : ¬ (acc ≠ [] ∧ L.length ≤ k)) (h : elF L k = .ok (q, k')) : elsF L (f + 1) acc k = elsF L f (acc ++ [q]) k' := by
 simp only [elsF]; rw [if_neg ha, h]
theorem elF_ok2 {L : Its} (hpl : Sc L) {k k' : Nat} {q : Ru.Pc} (h : elF L k = .ok (q, k')) : k < k' ∧ k < L.length ∧ q.1 ≤ q.2 ∧ Ru.scal q.1 = true ∧ Ru.scal q.2 = true := by
 have h1 := elF_ok hpl h
 refine ⟨h1.1, h1.2.1, h1.2.2.2.1, ?_, ?_⟩
 · have := h1.2.2.2.2.1; rw [Ru.scal_iff]; unfold scl at this; omega
 · have := h1.2.2.2.2.2; rw [Ru.scal_iff]; unfold scl at this; omega
end Wd
structure ClsAtF (w wr : World) (p : Nat) (L : Its) (k0 n : Nat) (v u : Value) (acc : List Ru.Pc) (f k : Nat) : Prop where
 hold : HoldC w wr (.slice none 0 0)
 ci : CI wr p L k n v
 lo : w.heap.size + 1 + 1 < p
 own : wr.ownsRow (p + 1) 79 2 u acc.length (flatK .i32 acc)
 len : acc.length ≤ k
 ok : Ru.Okr acc
 eq : elsF L (L.length + 2) [] k0 = elsF L f acc k
 fuel : L.length - k < f
def ClsPostF (L : Its) (n : Nat) (w : World) (e : Ending) (w' : World) : Prop :=
 match clsF L n with
 | .bad j => e = .returned (.tuple #[.slice none 0 0, .int .i64 3, .int .i64 j]) ∧ Below w.heap.size w w'
 | .ok S => ∃ u, e = .returned (.tuple #[u, .int .i64 0, .int .i64 0]) ∧ w'.ownsRow w.heap.size 79 2 u S.length (flatK .i32 S) ∧ Below w.heap.size w w'
theorem clsF_no {L : Its} {n j : Nat} {w w' : World} {e : Ending} (h : clsF L n = .bad j) (he : e = .returned (.tuple #[.slice none 0 0, .int .i64 3, .int .i64 j])) (hb : Below w.heap.size w w') : ClsPostF L n w e w' := by
 unfold ClsPostF; rw [h]; exact ⟨he, hb⟩
theorem clsF_err {L : Its} {n j : Nat} {b : Bool} (hb : decide (pk L 0 = 94) = b) (h : elsF L (L.length + 2) [] (if b = true then 1 else 0) = .error j) : clsF L n = .bad (plc L n j) := by
 subst hb; unfold clsF; simp only [decide_eq_true_eq] at h; rw [h]
theorem clsF_yes {L : Its} {n : Nat} {b : Bool} {acc S : List Ru.Pc} (hb : decide (pk L 0 = 94) = b) (h : elsF L (L.length + 2) [] (if b = true then 1 else 0) = .ok acc) (hS : S = if b = true then Ru.nt acc else Ru.nrm acc) : clsF L n = if S = [] then .bad n else .ok S := by
 subst hb; subst hS; unfold clsF; simp only [decide_eq_true_eq] at h ⊢; rw [h]
theorem ClsAtF.no {w wr : World} {p : Nat} {L : Its} {k0 n : Nat} {v u : Value} {acc : List Ru.Pc} {f k j : Nat} (h : ClsAtF w wr p L k0 n v u acc f k) (ha : ¬ (acc ≠ [] ∧ L.length ≤ k)) (he : elF L k = .error j) : elsF L (L.length + 2) [] k0 = .error j := by
 obtain ⟨f, rfl⟩ : ∃ g, f = g + 1 := ⟨f - 1, by have := h.fuel; omega⟩
 rw [h.eq, elsF_bad ha he]
theorem ClsAtF.stop {w wr : World} {p : Nat} {L : Its} {k0 n : Nat} {v u : Value} {acc : List Ru.Pc} {f k : Nat} (h : ClsAtF w wr p L k0 n v u acc f k) (ha : acc ≠ []) (hk : L.length ≤ k) : elsF L (L.length + 2) [] k0 = .ok acc := by
 obtain ⟨f, rfl⟩ : ∃ g, f = g + 1 := ⟨f - 1, by have := h.fuel; omega⟩
 rw [h.eq, elsF_stop ha hk]
theorem ClsAtF.next {w wr w2 : World} {p : Nat} {L : Its} {k0 n : Nat} {v u u2 : Value} {acc : List Ru.Pc} {f k k' : Nat} {q : Ru.Pc} (hpl : Sc L) (h : ClsAtF w wr p L k0 n v u acc f k) (ha : ¬ (acc ≠ [] ∧ L.length ≤ k)) (he : elF L k = .ok (q, k'))
 (hh : HoldC w w2 (.slice none 0 0)) (hci : CI w2 p L k' n v) (hown : w2.ownsRow (p + 1) 79 2 u2 (acc.length + 1) (flatK .i32 acc ++ [.int .i32 q.1, .int .i32 q.2])) : ∃ f', ClsAtF w w2 p L k0 n v u2 (acc ++ [q]) f' k' := by
 obtain ⟨f, rfl⟩ : ∃ g, f = g + 1 := ⟨f - 1, by have := h.fuel; omega⟩
 have ho := elF_ok2 hpl he
 refine ⟨f, hh, hci, h.lo, ?_, ?_, ?_, ?_, ?_⟩
 · rw [flatK_append, List.length_append]; exact hown
 · have := h.len; simp; omega
 · intro x hx
   rcases List.mem_append.1 hx with hx | hx
   · exact h.ok x hx
   · simp at hx; subst hx; exact ho.2.2
 · rw [h.eq, elsF_go ha he]
 · have := h.fuel; omega
theorem classF_not (s : ByteArray) (w : World) (hs : s.size ≤ 100000) (hpl : Sc (all 0 (sb s))) (hb : decide (pk (all 0 (sb s)) 0 = 94) = true) : Calls Tryz.prog 184 #[.string s] w (ClsPostF (all 0 (sb s)) s.size w) := by
 have hmf : ∀ (fn : Fn) (first cap : Array Value) (w : World), (Instr.makeFunc fn first cap).run Tryz.prog w = .ok (.func fn first cap) w := fun _ _ _ _ => rfl
 have hconv := fun w => Lib.run_convert_string_bytes (P := Tryz.prog) w 9 84 5 s Tryz.underlying9 Tryz.underlying84 Tryz.underlying5
 obtain ⟨ii, hi, hz0, hz1, hz2⟩ := infoRange
 obtain ⟨W3, hW3⟩ : ∃ W3, W3 = (((w.alloc (.cells #[.slice none 0 0] 32)).alloc (.cells #[.int .i64 0] 3)).alloc (.cells #[.int .i64 0] 3)) := ⟨_, rfl⟩
 obtain ⟨g0, g1, g2, g3, g4⟩ := threeW w _ _ _ W3 hW3
 have hcr := convRow W3 s (by omega)
 rw [g3] at hcr
 have hall := all_any (sb s) (.slice (some ⟨w.heap.size + 1 + 1 + 1, 0, none⟩) s.size (grownCap W3 s.size 0 5)) (Lib.bytesWorld W3 5 s) hcr (sb_u8 s) (by rw [sb_len]; omega)
 clear hcr
 have hlen := all_len 0 (sb s)
 rw [sb_len] at hlen
 obtain ⟨L, hL⟩ : ∃ L, L = all 0 (sb s) := ⟨_, rfl⟩
 rw [← hL] at hall hlen hpl hb ⊢
 have HA := Lib.hid hall
 have HPL := Lib.hid hpl
 have HB := Lib.hid hb
 have HG := Lib.hid (And.intro hW3 (And.intro g0 (And.intro g1 (And.intro g2 (And.intro g3 g4)))))
 clear hW3 g0 g1 g2 g3 g4 hall hpl hb hL
 go_enter_defers Tryz.func184, Tryz.ntmps184
 go_wp2_with fail
 obtain ⟨hW3, g0, g1, g2, g3, g4⟩ := HG.out
 rw [← hW3]
 refine HA.out.mono ?_
 rintro e w4 ⟨uv, rfl, hown4, hb4⟩
 have hbW : Below W3.heap.size W3 w4 := bel_then (convW_below W3 _ s) hb4
 have hold4 : HoldC w w4 (.slice none 0 0) := HoldC.below ⟨g0, g1, g2, g4⟩ (by omega) hbW
 have hz4 := hbW.size
 obtain ⟨p, hp⟩ : ∃ p, p = w4.heap.size := ⟨_, rfl⟩
 obtain ⟨ou, cu, rfl⟩ := owns_slice hown4
 have hci : CI (w4.alloc (.cells #[.slice ou L.length cu, .int .i64 ((0 : Nat) : Int), .int .i64 s.size] 235)) p L 0 s.size (.slice ou L.length cu) := by
  refine ⟨by rw [hp]; exact heap_alloc_new _ _, (Row.owned hown4).below (bel_new (Below.refl _ _) _), ?_, Nat.zero_le _, by omega⟩
  intro b off cap e
  simp only [Value.slice.injEq, true_and] at e
  obtain ⟨rfl, rfl⟩ := e
  have := (hown4.lt b rfl).2
  omega
 have hh5 : HoldC w (w4.alloc (.cells #[.slice ou L.length cu, .int .i64 ((0 : Nat) : Int), .int .i64 s.size] 235)) (.slice none 0 0) := hold4.below (by omega) (bel_new (Below.refl _ _) _)
 obtain ⟨W5, hW5⟩ : ∃ W5, W5 = w4.alloc (.cells #[.slice ou L.length cu, .int .i64 ((0 : Nat) : Int), .int .i64 s.size] 235) := ⟨_, rfl⟩
 rw [← hW5] at hci hh5
 have hpl2 : w.heap.size + 1 + 1 < p := by omega
 have hps : p < W5.heap.size := hci.lt
 have hlow : ∀ b off, ou = some ⟨b, off, none⟩ → b < p + 1 ∧ b ≠ w.heap.size := fun b off e => by
  subst e
  have h1 := (hown4.lt b rfl).2
  have h2 := (hown4.lt b rfl).1
  rw [Lib.bytesWorld_size] at h2
  omega
 have HLOW := Lib.hid hlow
 clear hlow
 have H5 := Lib.hid (And.intro hci (And.intro hh5 (And.intro hW5 hp)))
 clear hci hh5 hown4 hb4 hbW hold4 g0 g1 g2 g3 g4 hW3 hconv HG hp hz4 hW5
 go_wp2_with fail
 rw [← H5.out.2.2.2]
 have hW5 := H5.out.2.2.1
 simp only [Int.natCast_zero, Int.ofNat_zero] at hW5
 rw [← hW5]
 clear hW5
 refine (peek_any p 0 s.size L _ _ H5.out.1).mono ?_
 rintro e w6 ⟨rfl, q, rfl⟩
 obtain ⟨r0, hr0⟩ : ∃ r0, r0 = pk L 0 := ⟨_, rfl⟩
 rw [← hr0]
 have t94 : (r0 == 94) = true := by rw [hr0]; exact HB.out
 have HR0 := Lib.hid hr0
 clear hr0
 have hL1 : 1 ≤ L.length := by
  rcases Nat.eq_zero_or_pos L.length with h | h
  · have := HB.out; rw [pk_end (by omega)] at this; exact absurd this (by decide)
  · omega
 have hci6 := (H5.out.1.drewN q).at (k' := 1) hL1
 obtain ⟨⟨d0, d1, d2⟩, g0, g1, g2⟩ := cells3_of (H5.out.1.drewN q).hh
 have hch6 : Ch W5 ((W5.drewN q).setCell ⟨p, 1, none⟩ (.int .i64 ((1 : Nat) : Int))) p := (Ch.drewN p q).trans (Ch.set _ _ _ _)
 have hh6 := H5.out.2.1.ch (by omega) hpl2 hch6
 go_wp2_with fail
 clear d0 d1 d2 g0 g1 g2
 obtain ⟨W6, hW6⟩ : ∃ W6, W6 = (W5.drewN q).setCell ⟨p, 1, none⟩ (.int .i64 ((1 : Nat) : Int)) := ⟨_, rfl⟩
 rw [← hW6] at hci6 hh6
 have hW6' : W6 = (W5.drewN q).setCell ⟨p, 1, none⟩ (.int .i64 1) := hW6
 rw [← hW6']
 clear hW6 hW6' hch6
 have hat : ClsAtF w W6 p L 1 s.size (.slice ou L.length cu) (.slice none 0 0) [] (L.length + 2) 1 :=
  ⟨hh6, hci6, hpl2, World.ownsRow_nil _ _ _ _, Nat.zero_le _, fun x hx => by simp at hx, rfl, by omega⟩
 have HAT := Lib.hid hat
 clear hat hh6 hci6
 go_loopw [7] (fun u wr => ∃ (acc : List Ru.Pc) (f k : Nat), lenOf u = acc.length ∧ ClsAtF w wr p L 1 s.size (.slice ou L.length cu) u acc f k) (fun u _ => L.length + 1 - lenOf u)
 case atStart => exact ⟨[], _, _, rfl, HAT.out⟩
 case round =>
  obtain ⟨acc, f, k, hlu, hat⟩ := hrel
  obtain ⟨wo, rfl⟩ : ∃ wo : World, wo = wr := ⟨_, rfl⟩
  have hkl := hat.ci.le
  have hal := hat.len
  obtain ⟨o7, c7, rfl⟩ := owns_slice hat.own
  obtain ⟨⟨d0, d1, d2⟩, g0, g1, g2⟩ := cells3_of hat.ci.hh
  have HT := Lib.hid hat
  clear hat HAT hlu
  by_cases hgo : acc ≠ [] ∧ L.length ≤ k
  · have hkn : k = L.length := by omega
    have hac : (acc.length == 0) = false := beq_eq_false_iff_ne.2 (by have := List.length_pos_iff.2 hgo.1; omega)
    have hac2 : ((acc.length : Int) == 0) = false := beq_eq_false_iff_ne.2 (by have := List.length_pos_iff.2 hgo.1; omega)
    have hkk : decide ((k : Int) < (L.length : Int)) = false := by simp; omega
    have hkk2 : decide (k < L.length) = false := by simp; omega
    have hkge : L.length ≤ k := hgo.2
    clear hkn
    have hels := HT.out.stop hgo.1 hgo.2
    have HE := Lib.hid hels
    have HNE := Lib.hid hgo.1
    clear hels hgo
    go_wp2_with fail
    go_quiet (fail)
    have hci1 := HT.out.ci.drewN nq
    have hh1 := HT.out.hold.ch (by have := HT.out.lo; have := HT.out.ci.lt; omega) hpl2 (Ch.drewN p nq)
    have hown1 := owns_drewN HT.out.own nq
    generalize hwq : wo.drewN nq = wq at hci1 hh1 hown1 ⊢
    have H1 := Lib.hid (And.intro hci1 (And.intro hh1 hown1))
    clear hwq hci1 hh1 hown1 d0 d1 d2 g0 g1 g2
    go_wp2_with fail
    refine (joinedC_any acc _ _ _ H1.out.2.2 (by omega) HT.out.ok).mono ?_
    rintro e w8 ⟨u8, rfl, hown8, hbel8⟩
    have hb8 : Below (p + 1) wq w8 := hbel8 _ (by have := H1.out.1.lt; omega) (fun j hj => (H1.out.2.2.lt j hj).1)
    have hh8 := H1.out.2.1.low (q := p + 1) (by omega) hb8
    have hci8 := H1.out.1.low (fun j hj => hb8.block j hj) hb8.size (fun b off e => (HLOW.out b off e).1)
    have hwq : w.heap.size < wq.heap.size := by have := H1.out.1.lt; omega
    rw [Ru.nrm_len] at hown8
    have hown8b : w8.ownsRow wq.heap.size 79 2 u8 (Ru.pcs acc).length (flatK .i32 (Ru.rngs (Ru.pcs acc))) := hown8
    obtain ⟨o8, c8, rfl⟩ := owns_slice hown8b
    have hlt8 := hci8.lt
    have hz8 : w.heap.size + 1 + 1 < w8.heap.size := by omega
    obtain ⟨d0, g0⟩ := cell1_of hh8.h0
    obtain ⟨d1, g1⟩ := cell1_of hh8.h1
    obtain ⟨d2, g2⟩ := cell1_of hh8.h2
    have hPl : (Ru.pcs acc).length ≤ 100000 := by have := Ru.pcs_le acc; omega
    obtain ⟨X, hX⟩ : ∃ X, X = w8.setCell ⟨w.heap.size, 0, none⟩ (.slice o8 (Ru.pcs acc).length c8) := ⟨_, rfl⟩
    have HX : Hid (HoldC w X (.slice o8 (Ru.pcs acc).length c8) ∧ CI X p L k s.size (.slice ou L.length cu) ∧ X.ownsRow wq.heap.size 79 2 (.slice o8 (Ru.pcs acc).length c8) (Ru.pcs acc).length (flatK .i32 (Ru.rngs (Ru.pcs acc))) ∧ w.heap.size + 1 + 1 < X.heap.size) := Lib.hid (by
     rw [hX]
     exact ⟨hh8.set _, hci8.setBlk (by omega) (fun b off e => (HLOW.out b off e).2), owns_setOther hown8b hwq, by simpa [World.setCell] using hz8⟩)
    have HXe := Lib.hid hX
    have HWQ := Lib.hid hwq
    clear hX hown8 hown8b hh8 hci8 hbel8 hb8
    go_wp2_with fail
    rw [← HXe.out]
    refine (rest_any (Ru.pcs acc) _ X (Row.owned HX.out.2.2.1) (by omega) (Ru.pcs_pos acc)).mono ?_
    rintro e w10 ⟨u10, rfl, hown10, hb10⟩
    obtain ⟨o10, c10, rfl⟩ := owns_slice hown10
    have hz10 : w.heap.size + 1 + 1 < w10.heap.size := by have := HX.out.2.2.2; have := hb10.size; omega
    have hh10 := HX.out.1.below HX.out.2.2.2 hb10
    have hci10 := HX.out.2.1.moved hb10
    have hxw : w.heap.size < X.heap.size := by have := HX.out.2.2.2; omega
    clear d0 d1 d2 g0 g1 g2
    obtain ⟨d0, g0⟩ := cell1_of hh10.h0
    obtain ⟨d1, g1⟩ := cell1_of hh10.h1
    obtain ⟨d2, g2⟩ := cell1_of hh10.h2
    obtain ⟨Y, hY⟩ : ∃ Y, Y = w10.setCell ⟨w.heap.size, 0, none⟩ (.slice o10 (Ru.cpl 0 (Ru.pcs acc)).length c10) := ⟨_, rfl⟩
    have HY : Hid (HoldC w Y (.slice o10 (Ru.cpl 0 (Ru.pcs acc)).length c10) ∧ CI Y p L k s.size (.slice ou L.length cu) ∧ Y.ownsRow X.heap.size 79 2 (.slice o10 (Ru.cpl 0 (Ru.pcs acc)).length c10) (Ru.cpl 0 (Ru.pcs acc)).length (flatK .i32 (Ru.rngs (Ru.cpl 0 (Ru.pcs acc)))) ∧ w.heap.size + 1 + 1 < Y.heap.size) := Lib.hid (by
     rw [hY]
     exact ⟨hh10.set _, hci10.setBlk (by omega) (fun b off e => (HLOW.out b off e).2), owns_setOther hown10 hxw, by simpa [World.setCell] using hz10⟩)
    have HYe := Lib.hid hY
    have HXw := Lib.hid hxw
    clear hY hown10 hh10 hci10 hb10 hxw
    have hplc : plc L s.size k = s.size := by unfold plc; rw [List.getElem?_eq_none (by omega)]
    have HPLC := Lib.hid hplc
    clear hplc
    by_cases hS : (Ru.cpl 0 (Ru.pcs acc)).length = 0
    · have tz : ((((Ru.cpl 0 (Ru.pcs acc)).length : Nat) : Int) == 0) = true := beq_iff_eq.2 (by omega)
      have tz2 : ((Ru.cpl 0 (Ru.pcs acc)).length == 0) = true := beq_iff_eq.2 hS
      have hcl : clsF L s.size = .bad s.size := by
       rw [clsF_yes HB.out HE.out (S := Ru.nt acc) rfl, if_pos]
       exact List.eq_nil_of_length_eq_zero (by rw [Ru.nt_len]; exact hS)
      have HCL := Lib.hid hcl
      clear hcl hS
      go_wp2_with fail
      rw [← HYe.out]
      refine (cfail_any p k s.size L _ _ HY.out.2.1).mono ?_
      rintro e w12 ⟨rfl, q2, rfl⟩
      go_wp2
      have hcl := HCL.out
      have hplc := HPLC.out
      have hhz := HY.out.1.below HY.out.2.2.2 (below_drewN (Below.refl _ _) q2)
      refine leaves_cons (f := 195) (args := #[.pointer (some ⟨w.heap.size, 0, none⟩), .pointer (some ⟨w.heap.size + 1, 0, none⟩), .pointer (some ⟨w.heap.size + 1 + 1, 0, none⟩)]) (by simp) (by simp [go_sem]) ?_
      refine (ccatch_panic _ _ _ 3 ((plc L s.size k : Nat) : Int) _ _ _ _ hhz.h0 hhz.h1 hhz.h2 (by omega) (by omega) (by omega)).mono ?_
      rintro e u' w7 ⟨rfl, rfl, K0, K1, K2, hbel7⟩
      have HB7 : Below w.heap.size w w7 := hhz.bel.trans (hbel7 _ (Nat.le_refl _) (by omega) (by omega) hhz.bel.size)
      obtain ⟨c0, z0⟩ := cell1_of K0
      obtain ⟨c1, z1⟩ := cell1_of K1
      obtain ⟨c2, z2⟩ := cell1_of K2
      simp [Leaves, settle, results, Tryz.results184, go_sem, c0, c1, c2]
      exact clsF_no hcl (by rw [hplc]) HB7
    · have tz : ((((Ru.cpl 0 (Ru.pcs acc)).length : Nat) : Int) == 0) = false := beq_eq_false_iff_ne.2 (by omega)
      have tz2 : ((Ru.cpl 0 (Ru.pcs acc)).length == 0) = false := beq_eq_false_iff_ne.2 hS
      have hcl : clsF L s.size = .ok (Ru.nt acc) := by
       rw [clsF_yes HB.out HE.out (S := Ru.nt acc) rfl, if_neg]
       intro e
       exact hS (by rw [← Ru.nt_len, e]; rfl)
      have HCL := Lib.hid hcl
      clear hcl hS
      go_wp2
      rw [← HYe.out]
      obtain ⟨W8, hW8⟩ : ∃ W8, W8 = ((Y.setCell ⟨w.heap.size, 0, none⟩ (.slice o10 (Ru.cpl 0 (Ru.pcs acc)).length c10)).setCell ⟨w.heap.size + 1, 0, none⟩ (.int .i64 0)).setCell ⟨w.heap.size + 1 + 1, 0, none⟩ (.int .i64 0) := ⟨_, rfl⟩
      rw [← hW8]
      have hh8 : HoldC w W8 (.slice o10 (Ru.cpl 0 (Ru.pcs acc)).length c10) := by rw [hW8]; exact HY.out.1.again
      have hbw : w.heap.size + 1 + 1 < X.heap.size := by have := HX.out.2.2.2; omega
      have hown8 : W8.ownsRow X.heap.size 79 2 (.slice o10 (Ru.cpl 0 (Ru.pcs acc)).length c10) (Ru.cpl 0 (Ru.pcs acc)).length (flatK .i32 (Ru.rngs (Ru.cpl 0 (Ru.pcs acc)))) := by
       rw [hW8]
       exact owns_setOther (owns_setOther (owns_setOther HY.out.2.2.1 (by omega)) (by omega)) (by omega)
      have hz8 : w.heap.size + 1 + 1 < W8.heap.size := by rw [hW8]; simpa [World.setCell] using HY.out.2.2.2
      clear hW8
      refine leaves_cons (f := 195) (args := #[.pointer (some ⟨w.heap.size, 0, none⟩), .pointer (some ⟨w.heap.size + 1, 0, none⟩), .pointer (some ⟨w.heap.size + 1 + 1, 0, none⟩)]) (by simp) (by simp [go_sem]) ?_
      refine (ccatch_idle _ _ _ _).mono ?_
      rintro e u' w'' ⟨rfl, rfl, rfl⟩
      have hh9 := hh8.below hz8 (bel_new (Below.refl _ _) (.cells #[.int .i64 0, .int .i64 0] 103))
      have hown9 := owns_below hown8 (bel_new (Below.refl _ _) (.cells #[.int .i64 0, .int .i64 0] 103))
      obtain ⟨W9, hW9⟩ : ∃ W9, W9 = W8.alloc (.cells #[.int .i64 0, .int .i64 0] 103) := ⟨_, rfl⟩
      rw [← hW9] at hh9 hown9 ⊢
      clear hW9 d0 d1 d2 g0 g1 g2
      obtain ⟨c0, z0⟩ := cell1_of hh9.h0
      obtain ⟨c1, z1⟩ := cell1_of hh9.h1
      obtain ⟨c2, z2⟩ := cell1_of hh9.h2
      simp [Leaves, settle, results, Tryz.results184, go_sem, c0, c1, c2]
      unfold ClsPostF
      rw [HCL.out]
      exact ⟨_, rfl, by rw [Ru.nt_len]; exact owns_base hown9 (by omega), hh9.bel⟩
  · cases hel : elF L k with
    | error j =>
     have hels := HT.out.no hgo hel
     have hcl := clsF_err (n := s.size) HB.out hels
     have HC := Lib.hid (And.intro hel hcl)
     clear hels hcl hel
     have hgd : acc = [] ∨ k < L.length := by
      rcases Nat.lt_or_ge k L.length with h | h
      · exact .inr h
      · exact .inl (Classical.byContradiction fun hne => hgo ⟨hne, h⟩)
     clear hgo
     rcases (show acc.length = 0 ∨ (0 < acc.length ∧ k < L.length) from by
      rcases hgd with h | h
      · exact .inl (by rw [h]; rfl)
      · rcases Nat.eq_zero_or_pos acc.length with h2 | h2
        · exact .inl h2
        · exact .inr ⟨h2, h⟩) with hz | ⟨hz, hkl2⟩
     all_goals clear hgd
     · have hac : ((acc.length : Int) == 0) = true := beq_iff_eq.2 (by omega)
       have hac2 : (acc.length == 0) = true := beq_iff_eq.2 (by omega)
       have HZ := Lib.hid hz
       clear hz
       go_wp2_with fail
       go_quiet (fail)
       have hci1 := HT.out.ci.drewN nq
       have hh1 := HT.out.hold.ch (by have := HT.out.lo; have := HT.out.ci.lt; omega) hpl2 (Ch.drewN p nq)
       have hown1 := owns_drewN HT.out.own nq
       generalize hwq : wo.drewN nq = wq at hci1 hh1 hown1 ⊢
       have H1 := Lib.hid (And.intro hci1 (And.intro hh1 hown1))
       clear hwq hci1 hh1 hown1 d0 d1 d2 g0 g1 g2
       go_wp2_with fail
       have hel1 := element_full p k s.size L _ _ H1.out.1 HPL.out
       unfold ElPostF at hel1
       rw [HC.out.1] at hel1
       have HEL := Lib.hid hel1
       clear hel1
       refine HEL.out.mono ?_
       rintro e w8 ⟨rfl, hch8⟩
       have hh8 := H1.out.2.1.ch (by have := HT.out.lo; have := H1.out.1.lt; omega) hpl2 hch8
       have hz8 : w.heap.size + 1 + 1 < w8.heap.size := by have := H1.out.1.lt; have := hch8.size; omega
       have H8 := Lib.hid (And.intro hh8 hz8)
       clear hh8 hz8 hch8
       go_wp2
       obtain ⟨hh1, hz8⟩ := H8.out
       refine leaves_cons (f := 195) (args := #[.pointer (some ⟨w.heap.size, 0, none⟩), .pointer (some ⟨w.heap.size + 1, 0, none⟩), .pointer (some ⟨w.heap.size + 1 + 1, 0, none⟩)]) (by simp) (by simp [go_sem]) ?_
       refine (ccatch_panic _ _ _ 3 ((plc L s.size j : Nat) : Int) _ _ _ w8 hh1.h0 hh1.h1 hh1.h2 (by omega) (by omega) (by omega)).mono ?_
       rintro e u' w7 ⟨rfl, rfl, K0, K1, K2, hbel7⟩
       have HB7 : Below w.heap.size w w7 := hh1.bel.trans (hbel7 _ (Nat.le_refl _) (by omega) (by omega) (by omega))
       obtain ⟨c0, z0⟩ := cell1_of K0
       obtain ⟨c1, z1⟩ := cell1_of K1
       obtain ⟨c2, z2⟩ := cell1_of K2
       simp [Leaves, settle, results, Tryz.results184, go_sem, c0, c1, c2]
       exact clsF_no HC.out.2 rfl HB7
     · have hac : ((acc.length : Int) == 0) = false := beq_eq_false_iff_ne.2 (by omega)
       have hac2 : (acc.length == 0) = false := beq_eq_false_iff_ne.2 (by omega)
       have hkk : decide ((k : Int) < (L.length : Int)) = true := by simp; omega
       have hkk2 : decide (k < L.length) = true := by simp; omega
       go_wp2_with fail
       go_quiet (fail)
       have hci1 := HT.out.ci.drewN nq
       have hh1 := HT.out.hold.ch (by have := HT.out.lo; have := HT.out.ci.lt; omega) hpl2 (Ch.drewN p nq)
       have hown1 := owns_drewN HT.out.own nq
       generalize hwq : wo.drewN nq = wq at hci1 hh1 hown1 ⊢
       have H1 := Lib.hid (And.intro hci1 (And.intro hh1 hown1))
       clear hwq hci1 hh1 hown1 d0 d1 d2 g0 g1 g2
       go_wp2_with fail
       have hel1 := element_full p k s.size L _ _ H1.out.1 HPL.out
       unfold ElPostF at hel1
       rw [HC.out.1] at hel1
       have HEL := Lib.hid hel1
       clear hel1
       refine HEL.out.mono ?_
       rintro e w8 ⟨rfl, hch8⟩
       have hh8 := H1.out.2.1.ch (by have := HT.out.lo; have := H1.out.1.lt; omega) hpl2 hch8
       have hz8 : w.heap.size + 1 + 1 < w8.heap.size := by have := H1.out.1.lt; have := hch8.size; omega
       have H8 := Lib.hid (And.intro hh8 hz8)
       clear hh8 hz8 hch8
       go_wp2
       obtain ⟨hh1, hz8⟩ := H8.out
       refine leaves_cons (f := 195) (args := #[.pointer (some ⟨w.heap.size, 0, none⟩), .pointer (some ⟨w.heap.size + 1, 0, none⟩), .pointer (some ⟨w.heap.size + 1 + 1, 0, none⟩)]) (by simp) (by simp [go_sem]) ?_
       refine (ccatch_panic _ _ _ 3 ((plc L s.size j : Nat) : Int) _ _ _ w8 hh1.h0 hh1.h1 hh1.h2 (by omega) (by omega) (by omega)).mono ?_
       rintro e u' w7 ⟨rfl, rfl, K0, K1, K2, hbel7⟩
       have HB7 : Below w.heap.size w w7 := hh1.bel.trans (hbel7 _ (Nat.le_refl _) (by omega) (by omega) (by omega))
       obtain ⟨c0, z0⟩ := cell1_of K0
       obtain ⟨c1, z1⟩ := cell1_of K1
       obtain ⟨c2, z2⟩ := cell1_of K2
       simp [Leaves, settle, results, Tryz.results184, go_sem, c0, c1, c2]
       exact clsF_no HC.out.2 rfl HB7
    | ok r =>
     obtain ⟨⟨qa, qc⟩, k'⟩ := r
     have hko := elF_ok2 HPL.out hel
     have HC := Lib.hid hel
     have HNX := Lib.hid (fun w2 u2 hh hci hown => HT.out.next (w2 := w2) (u2 := u2) HPL.out hgo hel hh hci hown)
     have hkl' : k < L.length := hko.2.1
     clear hel
     have hgd : acc = [] ∨ k < L.length := by
      rcases Nat.lt_or_ge k L.length with h | h
      · exact .inr h
      · exact .inl (Classical.byContradiction fun hne => hgo ⟨hne, h⟩)
     clear hgo
     rcases (show acc.length = 0 ∨ (0 < acc.length ∧ k < L.length) from by
      rcases hgd with h | h
      · exact .inl (by rw [h]; rfl)
      · rcases Nat.eq_zero_or_pos acc.length with h2 | h2
        · exact .inl h2
        · exact .inr ⟨h2, h⟩) with hz | ⟨hz, hkl2⟩
     all_goals clear hgd
     · have hac : ((acc.length : Int) == 0) = true := beq_iff_eq.2 (by omega)
       have hac2 : (acc.length == 0) = true := beq_iff_eq.2 (by omega)
       have HZ := Lib.hid hz
       clear hz
       go_wp2_with fail
       go_quiet (fail)
       have hci1 := HT.out.ci.drewN nq
       have hh1 := HT.out.hold.ch (by have := HT.out.lo; have := HT.out.ci.lt; omega) hpl2 (Ch.drewN p nq)
       have hown1 := owns_drewN HT.out.own nq
       generalize hwq : wo.drewN nq = wq at hci1 hh1 hown1 ⊢
       have H1 := Lib.hid (And.intro hci1 (And.intro hh1 hown1))
       clear hwq hci1 hh1 hown1 d0 d1 d2 g0 g1 g2
       go_wp2_with fail
       have hel1 := element_full p k s.size L _ _ H1.out.1 HPL.out
       unfold ElPostF at hel1
       rw [HC.out] at hel1
       have HEL := Lib.hid hel1
       clear hel1
       refine HEL.out.mono ?_
       rintro e w8 ⟨rfl, hci8, hch8⟩
       have hh8 := H1.out.2.1.ch (by have := HT.out.lo; have := H1.out.1.lt; omega) hpl2 hch8
       have hlt8 : p < w8.heap.size := hci8.lt
       have hown8 : w8.ownsRow (p + 1) 79 2 (.slice o7 acc.length c7) acc.length (flatK .i32 acc) := by
        have h := H1.out.2.2
        have hlt := h.lt
        obtain ⟨h1, ⟨e1, e2⟩ | ⟨g, cap, cur, e1, hg, hb, hr⟩⟩ := h
        · exact ⟨h1, .inl ⟨e1, e2⟩⟩
        · refine ⟨h1, .inr ⟨g, cap, cur, e1, hg, ?_, hr⟩⟩
          rw [hch8.block g (by have := (hlt g (by rw [e1]; rfl)).2; omega) (by omega)]; exact hb
       have hz8 : w.heap.size + 1 + 1 < w8.heap.size := by have := H1.out.1.lt; have := hch8.size; omega
       have H8 := Lib.hid (And.intro hh8 (And.intro hci8 hown8))
       have hxs : acc.length ≤ 100000 := by omega
       clear hh8 hch8 hci8 hown8
       go_wp2_with (at_builtin; refine wpList_append_row _ rfl _ _ 32 rfl (p + 1) 79 ii (.agg #[.int .i32 0, .int .i32 0]) 2 8 Tryz.underlying32 hi hz0 hz1 hz2 rfl (by decide) (.slice o7 acc.length c7) acc.length (flatK .i32 acc) rfl ?hown _ 1 [.int .i32 qa, .int .i32 qc] rfl ?hrow rfl ?hone ?h63 ?hby ?hbase ?_)
       case hown => exact H8.out.2.2.alloc _
       case hrow => exact rowNew2 _ _ _ _ _ (by simp)
       case hone => simp [Value.oneCell']
       case h63 => unfold maxLen; omega
       case hby => omega
       case hbase => simp <;> omega
       intro v' w9 hown9 hgrow9
       have hr9 : ∀ j, (Value.slice o7 acc.length c7).ownBlock = some j → p + 1 ≤ j := fun j hj => (H8.out.2.2.lt j hj).1
       have hh9 := (H8.out.1.below hz8 (bel_new (Below.refl _ _) (.cells #[.int .i32 qa, .int .i32 qc] 79))).grown (by simp <;> omega) hgrow9 (fun j hj => by have := hr9 j hj; omega)
       have hci9 : CI w9 p L k' s.size (.slice ou L.length cu) := by
        have h1 := H8.out.2.1.moved (bel_new (Below.refl _ _) (.cells #[.int .i32 qa, .int .i32 qc] 79))
        have hblk : ∀ j, j < p + 1 → w9.heap[j]? = (w8.alloc (.cells #[.int .i32 qa, .int .i32 qc] 79)).heap[j]? := fun j hj => hgrow9.block j (by simp; omega) (fun e => by have := hr9 j e.symm; omega)
        exact h1.low hblk (by have := hgrow9.size; simpa using this) (fun b off e => (HLOW.out b off e).1)
       obtain ⟨o9, c9, rfl⟩ := owns_slice hown9
       obtain ⟨f', hnx⟩ := HNX.out _ _ hh9 hci9 hown9
       have HN := Lib.hid hnx
       clear hh9 hci9 hgrow9 hown9 hr9 hnx
       go_wp2
       go_roundw
       case rel => exact ⟨_, _, _, by simp [lenOf], HN.out⟩
       case measure => simp [lenOf] <;> omega
     · have hac : ((acc.length : Int) == 0) = false := beq_eq_false_iff_ne.2 (by omega)
       have hac2 : (acc.length == 0) = false := beq_eq_false_iff_ne.2 (by omega)
       have hkk : decide ((k : Int) < (L.length : Int)) = true := by simp; omega
       have hkk2 : decide (k < L.length) = true := by simp; omega
       go_wp2_with fail
       go_quiet (fail)
       have hci1 := HT.out.ci.drewN nq
       have hh1 := HT.out.hold.ch (by have := HT.out.lo; have := HT.out.ci.lt; omega) hpl2 (Ch.drewN p nq)
       have hown1 := owns_drewN HT.out.own nq
       generalize hwq : wo.drewN nq = wq at hci1 hh1 hown1 ⊢
       have H1 := Lib.hid (And.intro hci1 (And.intro hh1 hown1))
       clear hwq hci1 hh1 hown1 d0 d1 d2 g0 g1 g2
       go_wp2_with fail
       have hel1 := element_full p k s.size L _ _ H1.out.1 HPL.out
       unfold ElPostF at hel1
       rw [HC.out] at hel1
       have HEL := Lib.hid hel1
       clear hel1
       refine HEL.out.mono ?_
       rintro e w8 ⟨rfl, hci8, hch8⟩
       have hh8 := H1.out.2.1.ch (by have := HT.out.lo; have := H1.out.1.lt; omega) hpl2 hch8
       have hlt8 : p < w8.heap.size := hci8.lt
       have hown8 : w8.ownsRow (p + 1) 79 2 (.slice o7 acc.length c7) acc.length (flatK .i32 acc) := by
        have h := H1.out.2.2
        have hlt := h.lt
        obtain ⟨h1, ⟨e1, e2⟩ | ⟨g, cap, cur, e1, hg, hb, hr⟩⟩ := h
        · exact ⟨h1, .inl ⟨e1, e2⟩⟩
        · refine ⟨h1, .inr ⟨g, cap, cur, e1, hg, ?_, hr⟩⟩
          rw [hch8.block g (by have := (hlt g (by rw [e1]; rfl)).2; omega) (by omega)]; exact hb
       have hz8 : w.heap.size + 1 + 1 < w8.heap.size := by have := H1.out.1.lt; have := hch8.size; omega
       have H8 := Lib.hid (And.intro hh8 (And.intro hci8 hown8))
       have hxs : acc.length ≤ 100000 := by omega
       clear hh8 hch8 hci8 hown8
       go_wp2_with (at_builtin; refine wpList_append_row _ rfl _ _ 32 rfl (p + 1) 79 ii (.agg #[.int .i32 0, .int .i32 0]) 2 8 Tryz.underlying32 hi hz0 hz1 hz2 rfl (by decide) (.slice o7 acc.length c7) acc.length (flatK .i32 acc) rfl ?hown _ 1 [.int .i32 qa, .int .i32 qc] rfl ?hrow rfl ?hone ?h63 ?hby ?hbase ?_)
       case hown => exact H8.out.2.2.alloc _
       case hrow => exact rowNew2 _ _ _ _ _ (by simp)
       case hone => simp [Value.oneCell']
       case h63 => unfold maxLen; omega
       case hby => omega
       case hbase => simp <;> omega
       intro v' w9 hown9 hgrow9
       have hr9 : ∀ j, (Value.slice o7 acc.length c7).ownBlock = some j → p + 1 ≤ j := fun j hj => (H8.out.2.2.lt j hj).1
       have hh9 := (H8.out.1.below hz8 (bel_new (Below.refl _ _) (.cells #[.int .i32 qa, .int .i32 qc] 79))).grown (by simp <;> omega) hgrow9 (fun j hj => by have := hr9 j hj; omega)
       have hci9 : CI w9 p L k' s.size (.slice ou L.length cu) := by
        have h1 := H8.out.2.1.moved (bel_new (Below.refl _ _) (.cells #[.int .i32 qa, .int .i32 qc] 79))
        have hblk : ∀ j, j < p + 1 → w9.heap[j]? = (w8.alloc (.cells #[.int .i32 qa, .int .i32 qc] 79)).heap[j]? := fun j hj => hgrow9.block j (by simp; omega) (fun e => by have := hr9 j e.symm; omega)
        exact h1.low hblk (by have := hgrow9.size; simpa using this) (fun b off e => (HLOW.out b off e).1)
       obtain ⟨o9, c9, rfl⟩ := owns_slice hown9
       obtain ⟨f', hnx⟩ := HNX.out _ _ hh9 hci9 hown9
       have HN := Lib.hid hnx
       clear hh9 hci9 hgrow9 hown9 hr9 hnx
       go_wp2
       go_roundw
       case rel => exact ⟨_, _, _, by simp [lenOf], HN.out⟩
       case measure => simp [lenOf] <;> omega
theorem classF_plain (s : ByteArray) (w : World) (hs : s.size ≤ 100000) (hpl : Sc (all 0 (sb s))) (hb : decide (pk (all 0 (sb s)) 0 = 94) = false) : Calls Tryz.prog 184 #[.string s] w (ClsPostF (all 0 (sb s)) s.size w) := by
 have hmf : ∀ (fn : Fn) (first cap : Array Value) (w : World), (Instr.makeFunc fn first cap).run Tryz.prog w = .ok (.func fn first cap) w := fun _ _ _ _ => rfl
 have hconv := fun w => Lib.run_convert_string_bytes (P := Tryz.prog) w 9 84 5 s Tryz.underlying9 Tryz.underlying84 Tryz.underlying5
 obtain ⟨ii, hi, hz0, hz1, hz2⟩ := infoRange
 obtain ⟨W3, hW3⟩ : ∃ W3, W3 = (((w.alloc (.cells #[.slice none 0 0] 32)).alloc (.cells #[.int .i64 0] 3)).alloc (.cells #[.int .i64 0] 3)) := ⟨_, rfl⟩
 obtain ⟨g0, g1, g2, g3, g4⟩ := threeW w _ _ _ W3 hW3
 have hcr := convRow W3 s (by omega)
 rw [g3] at hcr
 have hall := all_any (sb s) (.slice (some ⟨w.heap.size + 1 + 1 + 1, 0, none⟩) s.size (grownCap W3 s.size 0 5)) (Lib.bytesWorld W3 5 s) hcr (sb_u8 s) (by rw [sb_len]; omega)
 clear hcr
 have hlen := all_len 0 (sb s)
 rw [sb_len] at hlen
 obtain ⟨L, hL⟩ : ∃ L, L = all 0 (sb s) := ⟨_, rfl⟩
 rw [← hL] at hall hlen hpl hb ⊢
 have HA := Lib.hid hall
 have HPL := Lib.hid hpl
 have HB := Lib.hid hb
 have HG := Lib.hid (And.intro hW3 (And.intro g0 (And.intro g1 (And.intro g2 (And.intro g3 g4)))))
 clear hW3 g0 g1 g2 g3 g4 hall hpl hb hL
 go_enter_defers Tryz.func184, Tryz.ntmps184
 go_wp2_with fail
 obtain ⟨hW3, g0, g1, g2, g3, g4⟩ := HG.out
 rw [← hW3]
 refine HA.out.mono ?_
 rintro e w4 ⟨uv, rfl, hown4, hb4⟩
 have hbW : Below W3.heap.size W3 w4 := bel_then (convW_below W3 _ s) hb4
 have hold4 : HoldC w w4 (.slice none 0 0) := HoldC.below ⟨g0, g1, g2, g4⟩ (by omega) hbW
 have hz4 := hbW.size
 obtain ⟨p, hp⟩ : ∃ p, p = w4.heap.size := ⟨_, rfl⟩
 obtain ⟨ou, cu, rfl⟩ := owns_slice hown4
 have hci : CI (w4.alloc (.cells #[.slice ou L.length cu, .int .i64 ((0 : Nat) : Int), .int .i64 s.size] 235)) p L 0 s.size (.slice ou L.length cu) := by
  refine ⟨by rw [hp]; exact heap_alloc_new _ _, (Row.owned hown4).below (bel_new (Below.refl _ _) _), ?_, Nat.zero_le _, by omega⟩
  intro b off cap e
  simp only [Value.slice.injEq, true_and] at e
  obtain ⟨rfl, rfl⟩ := e
  have := (hown4.lt b rfl).2
  omega
 have hh5 : HoldC w (w4.alloc (.cells #[.slice ou L.length cu, .int .i64 ((0 : Nat) : Int), .int .i64 s.size] 235)) (.slice none 0 0) := hold4.below (by omega) (bel_new (Below.refl _ _) _)
 obtain ⟨W5, hW5⟩ : ∃ W5, W5 = w4.alloc (.cells #[.slice ou L.length cu, .int .i64 ((0 : Nat) : Int), .int .i64 s.size] 235) := ⟨_, rfl⟩
 rw [← hW5] at hci hh5
 have hpl2 : w.heap.size + 1 + 1 < p := by omega
 have hps : p < W5.heap.size := hci.lt
 have hlow : ∀ b off, ou = some ⟨b, off, none⟩ → b < p + 1 ∧ b ≠ w.heap.size := fun b off e => by
  subst e
  have h1 := (hown4.lt b rfl).2
  have h2 := (hown4.lt b rfl).1
  rw [Lib.bytesWorld_size] at h2
  omega
 have HLOW := Lib.hid hlow
 clear hlow
 have H5 := Lib.hid (And.intro hci (And.intro hh5 (And.intro hW5 hp)))
 clear hci hh5 hown4 hb4 hbW hold4 g0 g1 g2 g3 g4 hW3 hconv HG hp hz4 hW5
 go_wp2_with fail
 rw [← H5.out.2.2.2]
 have hW5 := H5.out.2.2.1
 simp only [Int.natCast_zero, Int.ofNat_zero] at hW5
 rw [← hW5]
 clear hW5
 refine (peek_any p 0 s.size L _ _ H5.out.1).mono ?_
 rintro e w6 ⟨rfl, q, rfl⟩
 obtain ⟨r0, hr0⟩ : ∃ r0, r0 = pk L 0 := ⟨_, rfl⟩
 rw [← hr0]
 have t94 : (r0 == 94) = false := by rw [hr0]; exact HB.out
 have HR0 := Lib.hid hr0
 clear hr0
 have hci6 := H5.out.1.drewN q
 have hh6 := H5.out.2.1.ch (by omega) hpl2 (Ch.drewN p q)
 go_wp2_with fail
 obtain ⟨W6, hW6⟩ : ∃ W6, W6 = W5.drewN q := ⟨_, rfl⟩
 rw [← hW6] at hci6 hh6 ⊢
 clear hW6
 have hat : ClsAtF w W6 p L 0 s.size (.slice ou L.length cu) (.slice none 0 0) [] (L.length + 2) 0 :=
  ⟨hh6, hci6, hpl2, World.ownsRow_nil _ _ _ _, Nat.zero_le _, fun x hx => by simp at hx, rfl, by omega⟩
 have HAT := Lib.hid hat
 clear hat hh6 hci6
 go_loopw [7] (fun u wr => ∃ (acc : List Ru.Pc) (f k : Nat), lenOf u = acc.length ∧ ClsAtF w wr p L 0 s.size (.slice ou L.length cu) u acc f k) (fun u _ => L.length + 1 - lenOf u)
 case atStart => exact ⟨[], _, _, rfl, HAT.out⟩
 case round =>
  obtain ⟨acc, f, k, hlu, hat⟩ := hrel
  obtain ⟨wo, rfl⟩ : ∃ wo : World, wo = wr := ⟨_, rfl⟩
  have hkl := hat.ci.le
  have hal := hat.len
  obtain ⟨o7, c7, rfl⟩ := owns_slice hat.own
  obtain ⟨⟨d0, d1, d2⟩, g0, g1, g2⟩ := cells3_of hat.ci.hh
  have HT := Lib.hid hat
  clear hat HAT hlu
  by_cases hgo : acc ≠ [] ∧ L.length ≤ k
  · have hkn : k = L.length := by omega
    have hac : (acc.length == 0) = false := beq_eq_false_iff_ne.2 (by have := List.length_pos_iff.2 hgo.1; omega)
    have hac2 : ((acc.length : Int) == 0) = false := beq_eq_false_iff_ne.2 (by have := List.length_pos_iff.2 hgo.1; omega)
    have hkk : decide ((k : Int) < (L.length : Int)) = false := by simp; omega
    have hkk2 : decide (k < L.length) = false := by simp; omega
    have hkge : L.length ≤ k := hgo.2
    clear hkn
    have hels := HT.out.stop hgo.1 hgo.2
    have HE := Lib.hid hels
    have HNE := Lib.hid hgo.1
    clear hels hgo
    go_wp2_with fail
    go_quiet (fail)
    have hci1 := HT.out.ci.drewN nq
    have hh1 := HT.out.hold.ch (by have := HT.out.lo; have := HT.out.ci.lt; omega) hpl2 (Ch.drewN p nq)
    have hown1 := owns_drewN HT.out.own nq
    generalize hwq : wo.drewN nq = wq at hci1 hh1 hown1 ⊢
    have H1 := Lib.hid (And.intro hci1 (And.intro hh1 hown1))
    clear hwq hci1 hh1 hown1 d0 d1 d2 g0 g1 g2
    go_wp2_with fail
    refine (joinedC_any acc _ _ _ H1.out.2.2 (by omega) HT.out.ok).mono ?_
    rintro e w8 ⟨u8, rfl, hown8, hbel8⟩
    have hb8 : Below (p + 1) wq w8 := hbel8 _ (by have := H1.out.1.lt; omega) (fun j hj => (H1.out.2.2.lt j hj).1)
    have hh8 := H1.out.2.1.low (q := p + 1) (by omega) hb8
    have hci8 := H1.out.1.low (fun j hj => hb8.block j hj) hb8.size (fun b off e => (HLOW.out b off e).1)
    have hwq : w.heap.size < wq.heap.size := by have := H1.out.1.lt; omega
    rw [Ru.nrm_len] at hown8
    have hown8b : w8.ownsRow wq.heap.size 79 2 u8 (Ru.pcs acc).length (flatK .i32 (Ru.rngs (Ru.pcs acc))) := hown8
    obtain ⟨o8, c8, rfl⟩ := owns_slice hown8b
    have hlt8 := hci8.lt
    have hz8 : w.heap.size + 1 + 1 < w8.heap.size := by omega
    obtain ⟨d0, g0⟩ := cell1_of hh8.h0
    obtain ⟨d1, g1⟩ := cell1_of hh8.h1
    obtain ⟨d2, g2⟩ := cell1_of hh8.h2
    have hPl : (Ru.pcs acc).length ≤ 100000 := by have := Ru.pcs_le acc; omega
    obtain ⟨X, hX⟩ : ∃ X, X = w8.setCell ⟨w.heap.size, 0, none⟩ (.slice o8 (Ru.pcs acc).length c8) := ⟨_, rfl⟩
    have HX : Hid (HoldC w X (.slice o8 (Ru.pcs acc).length c8) ∧ CI X p L k s.size (.slice ou L.length cu) ∧ X.ownsRow wq.heap.size 79 2 (.slice o8 (Ru.pcs acc).length c8) (Ru.pcs acc).length (flatK .i32 (Ru.rngs (Ru.pcs acc))) ∧ w.heap.size + 1 + 1 < X.heap.size) := Lib.hid (by
     rw [hX]
     exact ⟨hh8.set _, hci8.setBlk (by omega) (fun b off e => (HLOW.out b off e).2), owns_setOther hown8b hwq, by simpa [World.setCell] using hz8⟩)
    have HXe := Lib.hid hX
    have HWQ := Lib.hid hwq
    clear hX hown8 hown8b hh8 hci8 hbel8 hb8
    have hplc : plc L s.size k = s.size := by unfold plc; rw [List.getElem?_eq_none (by omega)]
    have HPLC := Lib.hid hplc
    clear hplc
    by_cases hS : (Ru.pcs acc).length = 0
    · have tz : ((((Ru.pcs acc).length : Nat) : Int) == 0) = true := beq_iff_eq.2 (by omega)
      have tz2 : ((Ru.pcs acc).length == 0) = true := beq_iff_eq.2 hS
      have hcl : clsF L s.size = .bad s.size := by
       rw [clsF_yes HB.out HE.out (S := Ru.nrm acc) rfl, if_pos]
       exact List.eq_nil_of_length_eq_zero (by rw [Ru.nrm_len]; exact hS)
      have HCL := Lib.hid hcl
      clear hcl hS
      go_wp2_with fail
      rw [← HXe.out]
      refine (cfail_any p k s.size L _ _ HX.out.2.1).mono ?_
      rintro e w12 ⟨rfl, q2, rfl⟩
      go_wp2
      have hcl := HCL.out
      have hplc := HPLC.out
      have hhz := HX.out.1.below HX.out.2.2.2 (below_drewN (Below.refl _ _) q2)
      refine leaves_cons (f := 195) (args := #[.pointer (some ⟨w.heap.size, 0, none⟩), .pointer (some ⟨w.heap.size + 1, 0, none⟩), .pointer (some ⟨w.heap.size + 1 + 1, 0, none⟩)]) (by simp) (by simp [go_sem]) ?_
      refine (ccatch_panic _ _ _ 3 ((plc L s.size k : Nat) : Int) _ _ _ _ hhz.h0 hhz.h1 hhz.h2 (by omega) (by omega) (by omega)).mono ?_
      rintro e u' w7 ⟨rfl, rfl, K0, K1, K2, hbel7⟩
      have HB7 : Below w.heap.size w w7 := hhz.bel.trans (hbel7 _ (Nat.le_refl _) (by omega) (by omega) hhz.bel.size)
      obtain ⟨c0, z0⟩ := cell1_of K0
      obtain ⟨c1, z1⟩ := cell1_of K1
      obtain ⟨c2, z2⟩ := cell1_of K2
      simp [Leaves, settle, results, Tryz.results184, go_sem, c0, c1, c2]
      exact clsF_no hcl (by rw [hplc]) HB7
    · have tz : ((((Ru.pcs acc).length : Nat) : Int) == 0) = false := beq_eq_false_iff_ne.2 (by omega)
      have tz2 : ((Ru.pcs acc).length == 0) = false := beq_eq_false_iff_ne.2 hS
      have hcl : clsF L s.size = .ok (Ru.nrm acc) := by
       rw [clsF_yes HB.out HE.out (S := Ru.nrm acc) rfl, if_neg]
       intro e
       exact hS (by rw [← Ru.nrm_len, e]; rfl)
      have HCL := Lib.hid hcl
      clear hcl hS
      go_wp2
      rw [← HXe.out]
      obtain ⟨W8, hW8⟩ : ∃ W8, W8 = ((X.setCell ⟨w.heap.size, 0, none⟩ (.slice o8 (Ru.pcs acc).length c8)).setCell ⟨w.heap.size + 1, 0, none⟩ (.int .i64 0)).setCell ⟨w.heap.size + 1 + 1, 0, none⟩ (.int .i64 0) := ⟨_, rfl⟩
      rw [← hW8]
      have hh8 : HoldC w W8 (.slice o8 (Ru.pcs acc).length c8) := by rw [hW8]; exact HX.out.1.again
      have hbw : w.heap.size + 1 + 1 < wq.heap.size := by have := H1.out.1.lt; omega
      have hown8 : W8.ownsRow wq.heap.size 79 2 (.slice o8 (Ru.pcs acc).length c8) (Ru.pcs acc).length (flatK .i32 (Ru.rngs (Ru.pcs acc))) := by
       rw [hW8]
       exact owns_setOther (owns_setOther (owns_setOther HX.out.2.2.1 (by omega)) (by omega)) (by omega)
      have hz8 : w.heap.size + 1 + 1 < W8.heap.size := by rw [hW8]; simpa [World.setCell] using HX.out.2.2.2
      clear hW8
      refine leaves_cons (f := 195) (args := #[.pointer (some ⟨w.heap.size, 0, none⟩), .pointer (some ⟨w.heap.size + 1, 0, none⟩), .pointer (some ⟨w.heap.size + 1 + 1, 0, none⟩)]) (by simp) (by simp [go_sem]) ?_
      refine (ccatch_idle _ _ _ _).mono ?_
      rintro e u' w'' ⟨rfl, rfl, rfl⟩
      have hh9 := hh8.below hz8 (bel_new (Below.refl _ _) (.cells #[.int .i64 0, .int .i64 0] 103))
      have hown9 := owns_below hown8 (bel_new (Below.refl _ _) (.cells #[.int .i64 0, .int .i64 0] 103))
      obtain ⟨W9, hW9⟩ : ∃ W9, W9 = W8.alloc (.cells #[.int .i64 0, .int .i64 0] 103) := ⟨_, rfl⟩
      rw [← hW9] at hh9 hown9 ⊢
      clear hW9 d0 d1 d2 g0 g1 g2
      obtain ⟨c0, z0⟩ := cell1_of hh9.h0
      obtain ⟨c1, z1⟩ := cell1_of hh9.h1
      obtain ⟨c2, z2⟩ := cell1_of hh9.h2
      simp [Leaves, settle, results, Tryz.results184, go_sem, c0, c1, c2]
      unfold ClsPostF
      rw [HCL.out]
      exact ⟨_, rfl, by rw [Ru.nrm_len]; exact owns_base hown9 (by omega), hh9.bel⟩
  · cases hel : elF L k with
    | error j =>
     have hels := HT.out.no hgo hel
     have hcl := clsF_err (n := s.size) HB.out hels
     have HC := Lib.hid (And.intro hel hcl)
     clear hels hcl hel
     have hgd : acc = [] ∨ k < L.length := by
      rcases Nat.lt_or_ge k L.length with h | h
      · exact .inr h
      · exact .inl (Classical.byContradiction fun hne => hgo ⟨hne, h⟩)
     clear hgo
     rcases (show acc.length = 0 ∨ (0 < acc.length ∧ k < L.length) from by
      rcases hgd with h | h
      · exact .inl (by rw [h]; rfl)
      · rcases Nat.eq_zero_or_pos acc.length with h2 | h2
        · exact .inl h2
        · exact .inr ⟨h2, h⟩) with hz | ⟨hz, hkl2⟩
     all_goals clear hgd
     · have hac : ((acc.length : Int) == 0) = true := beq_iff_eq.2 (by omega)
       have hac2 : (acc.length == 0) = true := beq_iff_eq.2 (by omega)
       have HZ := Lib.hid hz
       clear hz
       go_wp2_with fail
       go_quiet (fail)
       have hci1 := HT.out.ci.drewN nq
       have hh1 := HT.out.hold.ch (by have := HT.out.lo; have := HT.out.ci.lt; omega) hpl2 (Ch.drewN p nq)
       have hown1 := owns_drewN HT.out.own nq
       generalize hwq : wo.drewN nq = wq at hci1 hh1 hown1 ⊢
       have H1 := Lib.hid (And.intro hci1 (And.intro hh1 hown1))
       clear hwq hci1 hh1 hown1 d0 d1 d2 g0 g1 g2
       go_wp2_with fail
       have hel1 := element_full p k s.size L _ _ H1.out.1 HPL.out
       unfold ElPostF at hel1
       rw [HC.out.1] at hel1
       have HEL := Lib.hid hel1
       clear hel1
       refine HEL.out.mono ?_
       rintro e w8 ⟨rfl, hch8⟩
       have hh8 := H1.out.2.1.ch (by have := HT.out.lo; have := H1.out.1.lt; omega) hpl2 hch8
       have hz8 : w.heap.size + 1 + 1 < w8.heap.size := by have := H1.out.1.lt; have := hch8.size; omega
       have H8 := Lib.hid (And.intro hh8 hz8)
       clear hh8 hz8 hch8
       go_wp2
       obtain ⟨hh1, hz8⟩ := H8.out
       refine leaves_cons (f := 195) (args := #[.pointer (some ⟨w.heap.size, 0, none⟩), .pointer (some ⟨w.heap.size + 1, 0, none⟩), .pointer (some ⟨w.heap.size + 1 + 1, 0, none⟩)]) (by simp) (by simp [go_sem]) ?_
       refine (ccatch_panic _ _ _ 3 ((plc L s.size j : Nat) : Int) _ _ _ w8 hh1.h0 hh1.h1 hh1.h2 (by omega) (by omega) (by omega)).mono ?_
       rintro e u' w7 ⟨rfl, rfl, K0, K1, K2, hbel7⟩
       have HB7 : Below w.heap.size w w7 := hh1.bel.trans (hbel7 _ (Nat.le_refl _) (by omega) (by omega) (by omega))
       obtain ⟨c0, z0⟩ := cell1_of K0
       obtain ⟨c1, z1⟩ := cell1_of K1
       obtain ⟨c2, z2⟩ := cell1_of K2
       simp [Leaves, settle, results, Tryz.results184, go_sem, c0, c1, c2]
       exact clsF_no HC.out.2 rfl HB7
     · have hac : ((acc.length : Int) == 0) = false := beq_eq_false_iff_ne.2 (by omega)
       have hac2 : (acc.length == 0) = false := beq_eq_false_iff_ne.2 (by omega)
       have hkk : decide ((k : Int) < (L.length : Int)) = true := by simp; omega
       have hkk2 : decide (k < L.length) = true := by simp; omega
       go_wp2_with fail
       go_quiet (fail)
       have hci1 := HT.out.ci.drewN nq
       have hh1 := HT.out.hold.ch (by have := HT.out.lo; have := HT.out.ci.lt; omega) hpl2 (Ch.drewN p nq)
       have hown1 := owns_drewN HT.out.own nq
       generalize hwq : wo.drewN nq = wq at hci1 hh1 hown1 ⊢
       have H1 := Lib.hid (And.intro hci1 (And.intro hh1 hown1))
       clear hwq hci1 hh1 hown1 d0 d1 d2 g0 g1 g2
       go_wp2_with fail
       have hel1 := element_full p k s.size L _ _ H1.out.1 HPL.out
       unfold ElPostF at hel1
       rw [HC.out.1] at hel1
       have HEL := Lib.hid hel1
       clear hel1
       refine HEL.out.mono ?_
       rintro e w8 ⟨rfl, hch8⟩
       have hh8 := H1.out.2.1.ch (by have := HT.out.lo; have := H1.out.1.lt; omega) hpl2 hch8
       have hz8 : w.heap.size + 1 + 1 < w8.heap.size := by have := H1.out.1.lt; have := hch8.size; omega
       have H8 := Lib.hid (And.intro hh8 hz8)
       clear hh8 hz8 hch8
       go_wp2
       obtain ⟨hh1, hz8⟩ := H8.out
       refine leaves_cons (f := 195) (args := #[.pointer (some ⟨w.heap.size, 0, none⟩), .pointer (some ⟨w.heap.size + 1, 0, none⟩), .pointer (some ⟨w.heap.size + 1 + 1, 0, none⟩)]) (by simp) (by simp [go_sem]) ?_
       refine (ccatch_panic _ _ _ 3 ((plc L s.size j : Nat) : Int) _ _ _ w8 hh1.h0 hh1.h1 hh1.h2 (by omega) (by omega) (by omega)).mono ?_
       rintro e u' w7 ⟨rfl, rfl, K0, K1, K2, hbel7⟩
       have HB7 : Below w.heap.size w w7 := hh1.bel.trans (hbel7 _ (Nat.le_refl _) (by omega) (by omega) (by omega))
       obtain ⟨c0, z0⟩ := cell1_of K0
       obtain ⟨c1, z1⟩ := cell1_of K1
       obtain ⟨c2, z2⟩ := cell1_of K2
       simp [Leaves, settle, results, Tryz.results184, go_sem, c0, c1, c2]
       exact clsF_no HC.out.2 rfl HB7
    | ok r =>
     obtain ⟨⟨qa, qc⟩, k'⟩ := r
     have hko := elF_ok2 HPL.out hel
     have HC := Lib.hid hel
     have HNX := Lib.hid (fun w2 u2 hh hci hown => HT.out.next (w2 := w2) (u2 := u2) HPL.out hgo hel hh hci hown)
     have hkl' : k < L.length := hko.2.1
     clear hel
     have hgd : acc = [] ∨ k < L.length := by
      rcases Nat.lt_or_ge k L.length with h | h
      · exact .inr h
      · exact .inl (Classical.byContradiction fun hne => hgo ⟨hne, h⟩)
     clear hgo
     rcases (show acc.length = 0 ∨ (0 < acc.length ∧ k < L.length) from by
      rcases hgd with h | h
      · exact .inl (by rw [h]; rfl)
      · rcases Nat.eq_zero_or_pos acc.length with h2 | h2
        · exact .inl h2
        · exact .inr ⟨h2, h⟩) with hz | ⟨hz, hkl2⟩
     all_goals clear hgd
     · have hac : ((acc.length : Int) == 0) = true := beq_iff_eq.2 (by omega)
       have hac2 : (acc.length == 0) = true := beq_iff_eq.2 (by omega)
       have HZ := Lib.hid hz
       clear hz
       go_wp2_with fail
       go_quiet (fail)
       have hci1 := HT.out.ci.drewN nq
       have hh1 := HT.out.hold.ch (by have := HT.out.lo; have := HT.out.ci.lt; omega) hpl2 (Ch.drewN p nq)
       have hown1 := owns_drewN HT.out.own nq
       generalize hwq : wo.drewN nq = wq at hci1 hh1 hown1 ⊢
       have H1 := Lib.hid (And.intro hci1 (And.intro hh1 hown1))
       clear hwq hci1 hh1 hown1 d0 d1 d2 g0 g1 g2
       go_wp2_with fail
       have hel1 := element_full p k s.size L _ _ H1.out.1 HPL.out
       unfold ElPostF at hel1
       rw [HC.out] at hel1
       have HEL := Lib.hid hel1
       clear hel1
       refine HEL.out.mono ?_
       rintro e w8 ⟨rfl, hci8, hch8⟩
       have hh8 := H1.out.2.1.ch (by have := HT.out.lo; have := H1.out.1.lt; omega) hpl2 hch8
       have hlt8 : p < w8.heap.size := hci8.lt
       have hown8 : w8.ownsRow (p + 1) 79 2 (.slice o7 acc.length c7) acc.length (flatK .i32 acc) := by
        have h := H1.out.2.2
        have hlt := h.lt
        obtain ⟨h1, ⟨e1, e2⟩ | ⟨g, cap, cur, e1, hg, hb, hr⟩⟩ := h
        · exact ⟨h1, .inl ⟨e1, e2⟩⟩
        · refine ⟨h1, .inr ⟨g, cap, cur, e1, hg, ?_, hr⟩⟩
          rw [hch8.block g (by have := (hlt g (by rw [e1]; rfl)).2; omega) (by omega)]; exact hb
       have hz8 : w.heap.size + 1 + 1 < w8.heap.size := by have := H1.out.1.lt; have := hch8.size; omega
       have H8 := Lib.hid (And.intro hh8 (And.intro hci8 hown8))
       have hxs : acc.length ≤ 100000 := by omega
       clear hh8 hch8 hci8 hown8
       go_wp2_with (at_builtin; refine wpList_append_row _ rfl _ _ 32 rfl (p + 1) 79 ii (.agg #[.int .i32 0, .int .i32 0]) 2 8 Tryz.underlying32 hi hz0 hz1 hz2 rfl (by decide) (.slice o7 acc.length c7) acc.length (flatK .i32 acc) rfl ?hown _ 1 [.int .i32 qa, .int .i32 qc] rfl ?hrow rfl ?hone ?h63 ?hby ?hbase ?_)
       case hown => exact H8.out.2.2.alloc _
       case hrow => exact rowNew2 _ _ _ _ _ (by simp)
       case hone => simp [Value.oneCell']
       case h63 => unfold maxLen; omega
       case hby => omega
       case hbase => simp <;> omega
       intro v' w9 hown9 hgrow9
       have hr9 : ∀ j, (Value.slice o7 acc.length c7).ownBlock = some j → p + 1 ≤ j := fun j hj => (H8.out.2.2.lt j hj).1
       have hh9 := (H8.out.1.below hz8 (bel_new (Below.refl _ _) (.cells #[.int .i32 qa, .int .i32 qc] 79))).grown (by simp <;> omega) hgrow9 (fun j hj => by have := hr9 j hj; omega)
       have hci9 : CI w9 p L k' s.size (.slice ou L.length cu) := by
        have h1 := H8.out.2.1.moved (bel_new (Below.refl _ _) (.cells #[.int .i32 qa, .int .i32 qc] 79))
        have hblk : ∀ j, j < p + 1 → w9.heap[j]? = (w8.alloc (.cells #[.int .i32 qa, .int .i32 qc] 79)).heap[j]? := fun j hj => hgrow9.block j (by simp; omega) (fun e => by have := hr9 j e.symm; omega)
        exact h1.low hblk (by have := hgrow9.size; simpa using this) (fun b off e => (HLOW.out b off e).1)
       obtain ⟨o9, c9, rfl⟩ := owns_slice hown9
       obtain ⟨f', hnx⟩ := HNX.out _ _ hh9 hci9 hown9
       have HN := Lib.hid hnx
       clear hh9 hci9 hgrow9 hown9 hr9 hnx
       go_wp2
       go_roundw
       case rel => exact ⟨_, _, _, by simp [lenOf], HN.out⟩
       case measure => simp [lenOf] <;> omega
     · have hac : ((acc.length : Int) == 0) = false := beq_eq_false_iff_ne.2 (by omega)
       have hac2 : (acc.length == 0) = false := beq_eq_false_iff_ne.2 (by omega)
       have hkk : decide ((k : Int) < (L.length : Int)) = true := by simp; omega
       have hkk2 : decide (k < L.length) = true := by simp; omega
       go_wp2_with fail
       go_quiet (fail)
       have hci1 := HT.out.ci.drewN nq
       have hh1 := HT.out.hold.ch (by have := HT.out.lo; have := HT.out.ci.lt; omega) hpl2 (Ch.drewN p nq)
       have hown1 := owns_drewN HT.out.own nq
       generalize hwq : wo.drewN nq = wq at hci1 hh1 hown1 ⊢
       have H1 := Lib.hid (And.intro hci1 (And.intro hh1 hown1))
       clear hwq hci1 hh1 hown1 d0 d1 d2 g0 g1 g2
       go_wp2_with fail
       have hel1 := element_full p k s.size L _ _ H1.out.1 HPL.out
       unfold ElPostF at hel1
       rw [HC.out] at hel1
       have HEL := Lib.hid hel1
       clear hel1
       refine HEL.out.mono ?_
       rintro e w8 ⟨rfl, hci8, hch8⟩
       have hh8 := H1.out.2.1.ch (by have := HT.out.lo; have := H1.out.1.lt; omega) hpl2 hch8
       have hlt8 : p < w8.heap.size := hci8.lt
       have hown8 : w8.ownsRow (p + 1) 79 2 (.slice o7 acc.length c7) acc.length (flatK .i32 acc) := by
        have h := H1.out.2.2
        have hlt := h.lt
        obtain ⟨h1, ⟨e1, e2⟩ | ⟨g, cap, cur, e1, hg, hb, hr⟩⟩ := h
        · exact ⟨h1, .inl ⟨e1, e2⟩⟩
        · refine ⟨h1, .inr ⟨g, cap, cur, e1, hg, ?_, hr⟩⟩
          rw [hch8.block g (by have := (hlt g (by rw [e1]; rfl)).2; omega) (by omega)]; exact hb
       have hz8 : w.heap.size + 1 + 1 < w8.heap.size := by have := H1.out.1.lt; have := hch8.size; omega
       have H8 := Lib.hid (And.intro hh8 (And.intro hci8 hown8))
       have hxs : acc.length ≤ 100000 := by omega
       clear hh8 hch8 hci8 hown8
       go_wp2_with (at_builtin; refine wpList_append_row _ rfl _ _ 32 rfl (p + 1) 79 ii (.agg #[.int .i32 0, .int .i32 0]) 2 8 Tryz.underlying32 hi hz0 hz1 hz2 rfl (by decide) (.slice o7 acc.length c7) acc.length (flatK .i32 acc) rfl ?hown _ 1 [.int .i32 qa, .int .i32 qc] rfl ?hrow rfl ?hone ?h63 ?hby ?hbase ?_)
       case hown => exact H8.out.2.2.alloc _
       case hrow => exact rowNew2 _ _ _ _ _ (by simp)
       case hone => simp [Value.oneCell']
       case h63 => unfold maxLen; omega
       case hby => omega
       case hbase => simp <;> omega
       intro v' w9 hown9 hgrow9
       have hr9 : ∀ j, (Value.slice o7 acc.length c7).ownBlock = some j → p + 1 ≤ j := fun j hj => (H8.out.2.2.lt j hj).1
       have hh9 := (H8.out.1.below hz8 (bel_new (Below.refl _ _) (.cells #[.int .i32 qa, .int .i32 qc] 79))).grown (by simp <;> omega) hgrow9 (fun j hj => by have := hr9 j hj; omega)
       have hci9 : CI w9 p L k' s.size (.slice ou L.length cu) := by
        have h1 := H8.out.2.1.moved (bel_new (Below.refl _ _) (.cells #[.int .i32 qa, .int .i32 qc] 79))
        have hblk : ∀ j, j < p + 1 → w9.heap[j]? = (w8.alloc (.cells #[.int .i32 qa, .int .i32 qc] 79)).heap[j]? := fun j hj => hgrow9.block j (by simp; omega) (fun e => by have := hr9 j e.symm; omega)
        exact h1.low hblk (by have := hgrow9.size; simpa using this) (fun b off e => (HLOW.out b off e).1)
       obtain ⟨o9, c9, rfl⟩ := owns_slice hown9
       obtain ⟨f', hnx⟩ := HNX.out _ _ hh9 hci9 hown9
       have HN := Lib.hid hnx
       clear hh9 hci9 hgrow9 hown9 hr9 hnx
       go_wp2
       go_roundw
       case rel => exact ⟨_, _, _, by simp [lenOf], HN.out⟩
       case measure => simp [lenOf] <;> omega
theorem classF_any (s : ByteArray) (w : World) (hs : s.size ≤ 100000) (hpl : Sc (all 0 (sb s))) : Calls Tryz.prog 184 #[.string s] w (ClsPostF (all 0 (sb s)) s.size w) := by
 cases hb : decide (pk (all 0 (sb s)) 0 = 94) with
 | true => exact classF_not s w hs hpl hb
 | false => exact classF_plain s w hs hpl hb
end Go.Proofs.YtfkmajjgkdjncaaGreatDoor
