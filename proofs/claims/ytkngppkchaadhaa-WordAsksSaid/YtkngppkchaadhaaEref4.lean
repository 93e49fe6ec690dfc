/- goboref11.Class: the document's class. -/
import Derived.Test.YtkngppkchaadhaaEref3
set_option linter.unusedVariables false
set_option linter.unusedSimpArgs false
namespace Go.Proofs.Ytkngppkchaadhaa
open Go.RowKit De Wd

set_option maxHeartbeats 8000000 in
set_option maxRecDepth 1000000 in
theorem rClass_not (s : ByteArray) (w : World) (hs : s.size ≤ 1000) (h94 : pk (all 0 (sb s)) 0 = 94) : Calls Try.prog 11 #[.string s] w (ClsPostF (all 0 (sb s)) s.size w) := by
  have hall := fun w => refAll_any s w (by omega)
  have hlen := all_len 0 (sb s)
  have hsc := sc_all _ 0 (sb s) (Nat.le_refl _) (sb_u8 s)
  rw [sb_len] at hlen
  obtain ⟨L, hL⟩ : ∃ L, L = all 0 (sb s) := ⟨_, rfl⟩
  rw [← hL] at hall hlen hsc h94 ⊢
  have HALL := Lib.hid hall
  have HS := Lib.hid hsc
  have H94 := Lib.hid h94
  clear hall hsc h94 hL
  go_enter Try.func11, Try.ntmps11
  go_wp2_with fail
  refine (HALL.out _).mono ?_
  rintro e w1 ⟨v, rfl, hown, hb1⟩
  obtain ⟨ov, cv, rfl⟩ := owns_slice hown
  have hE : EI (w1.alloc (.cells #[.slice ov L.length cv, .int .i64 s.size, .int .i64 0, .int .i64 0, .int .i64 0] 67)) w1.heap.size L 0 s.size (.slice ov L.length cv) 0 0 := by
    refine ⟨by simpa using heap_alloc_new w1 _, (Row.owned hown).below (bel_new (Below.refl _ _) _), ?_, Nat.zero_le _, by omega⟩
    intro b off cap e
    simp only [Value.slice.injEq, true_and] at e
    obtain ⟨rfl, rfl⟩ := e
    have := (hown.lt b rfl).2
    omega
  have hbw := bel_new hb1 (.cells #[.slice ov L.length cv, .int .i64 s.size, .int .i64 0, .int .i64 0, .int .i64 0] 67)
  obtain ⟨p, hp⟩ : ∃ p, p = w1.heap.size := ⟨_, rfl⟩
  obtain ⟨X, hX⟩ : ∃ X, X = w1.alloc (.cells #[.slice ov L.length cv, .int .i64 s.size, .int .i64 0, .int .i64 0, .int .i64 0] 67) := ⟨_, rfl⟩
  have hpw : w.heap.size ≤ p := by rw [hp]; exact hb1.size
  go_wp2_with fail
  rw [← hX] at hE hbw ⊢
  rw [← hp] at hE ⊢
  have H1 := Lib.hid (And.intro hE (And.intro hbw hpw))
  clear hE hbw hp hX hown hb1
  refine (rclass_not p 0 s.size L _ 0 _ H1.out.1 HS.out (by omega) H94.out).mono ?_
  rintro e w2 (⟨acc, u, hel, rfl, hE2, hown2, hC2⟩ | ⟨j, kk, u, hel, rfl, hE2, hC2⟩)
  · obtain ⟨S, hS⟩ : ∃ S, S = Ru.nt acc := ⟨_, rfl⟩
    have hown3 : w2.ownsRow X.heap.size 43 2 u S.length (flatK .i32 S) := by rw [hS]; exact hown2
    have hb2 : Below w.heap.size w w2 := H1.out.2.1.trans ⟨hC2.os, hC2.tape, hC2.output, hC2.size, fun k hk => hC2.block k (by have := H1.out.2.1.size; omega) (by have := H1.out.2.2; omega)⟩
    obtain ⟨ou, cu, rfl⟩ := owns_slice hown3
    obtain ⟨⟨c0, c1, c2, c3, c4⟩, f2, f3, f4⟩ := cells5_of hE2.hh
    have hcl : clsF L s.size = if S = [] then .bad s.size else .ok S := by
      unfold clsF
      rw [if_pos H94.out]
      have h2 := hel
      try simp only [Nat.zero_add] at h2
      rw [h2]
      simp only [if_pos H94.out]
      rw [hS]
    have H2 := Lib.hid (And.intro hE2 (And.intro hown3 (And.intro hb2 hcl)))
    clear hE2 hown2 hown3 hC2 hb2 hcl hel hS
    by_cases hz : S.length = 0
    · have t0 : ((S.length : Int) == 0) = true := beq_iff_eq.2 (by omega)
      have t1 : (S.length == 0) = true := beq_iff_eq.2 hz
      have hcl : clsF L s.size = .bad s.size := by rw [H2.out.2.2.2, if_pos (List.eq_nil_of_length_eq_zero hz)]
      have HCL := Lib.hid hcl
      clear hcl hz
      go_wp2_with fail
      refine (rfail_any p L.length s.size L _ 0 _ H2.out.1).mono ?_
      rintro e w3 ⟨rfl, hE3, hC3⟩
      have hplc : plc L s.size L.length = s.size := by unfold plc; rw [List.getElem?_eq_none (by omega)]
      rw [hplc] at hE3
      have hb3 : Below w.heap.size w w3 := H2.out.2.2.1.trans ⟨hC3.os, hC3.tape, hC3.output, hC3.size, fun k hk => hC3.block k (by have := H2.out.2.2.1.size; omega) (by have := H1.out.2.2; omega)⟩
      clear c0 c1 c2 c3 c4 f2 f3 f4 hplc
      obtain ⟨⟨c0, c1, c2, c3, c4⟩, f2, f3, f4⟩ := cells5_of hE3.hh
      have HB := Lib.hid hb3
      clear hE3 hC3 hb3
      go_wp2_with fail
      go_quiet (fail)
      go_wp2
      exact bodyPost_ret (v := .tuple #[.slice none 0 0, .int .i64 3, .int .i64 s.size]) (by simp [results, Try.results11, go_sem]; try rfl) rfl (clsF_no HCL.out rfl (below_drewN HB.out _))
    · have t0 : ((S.length : Int) == 0) = false := beq_eq_false_iff_ne.2 (by omega)
      have t1 : (S.length == 0) = false := beq_eq_false_iff_ne.2 hz
      have hcl : clsF L s.size = .ok S := by rw [H2.out.2.2.2, if_neg (fun e => hz (by rw [e]; rfl))]
      have HCL := Lib.hid hcl
      clear hcl hz
      go_wp2
      exact bodyPost_ret (v := .tuple #[.slice ou S.length cu, .int .i64 0, .int .i64 0]) (by simp [results, Try.results11, go_sem]; try rfl) rfl (by unfold ClsPostF; rw [HCL.out]; exact ⟨_, rfl, owns_base H2.out.2.1 H1.out.2.1.size, H2.out.2.2.1⟩)
  · have hb2 : Below w.heap.size w w2 := H1.out.2.1.trans ⟨hC2.os, hC2.tape, hC2.output, hC2.size, fun k hk => hC2.block k (by have := H1.out.2.1.size; omega) (by have := H1.out.2.2; omega)⟩
    obtain ⟨⟨c0, c1, c2, c3, c4⟩, f2, f3, f4⟩ := cells5_of hE2.hh
    have hcl : clsF L s.size = .bad (plc L s.size j) := by
      unfold clsF
      rw [if_pos H94.out]
      have h2 := hel
      try simp only [Nat.zero_add] at h2
      rw [h2]
    have H2 := Lib.hid (And.intro hb2 hcl)
    clear hE2 hC2 hb2 hcl hel
    go_wp2_with fail
    go_quiet (fail)
    go_wp2
    exact bodyPost_ret (v := .tuple #[.slice none 0 0, .int .i64 3, .int .i64 (plc L s.size j)]) (by simp [results, Try.results11, go_sem]; try rfl) rfl (clsF_no H2.out.2 rfl (below_drewN H2.out.1 _))

set_option maxHeartbeats 8000000 in
set_option maxRecDepth 1000000 in
theorem rClass_plain (s : ByteArray) (w : World) (hs : s.size ≤ 1000) (h94 : ¬ pk (all 0 (sb s)) 0 = 94) : Calls Try.prog 11 #[.string s] w (ClsPostF (all 0 (sb s)) s.size w) := by
  have hall := fun w => refAll_any s w (by omega)
  have hlen := all_len 0 (sb s)
  have hsc := sc_all _ 0 (sb s) (Nat.le_refl _) (sb_u8 s)
  rw [sb_len] at hlen
  obtain ⟨L, hL⟩ : ∃ L, L = all 0 (sb s) := ⟨_, rfl⟩
  rw [← hL] at hall hlen hsc h94 ⊢
  have HALL := Lib.hid hall
  have HS := Lib.hid hsc
  have H94 := Lib.hid h94
  clear hall hsc h94 hL
  go_enter Try.func11, Try.ntmps11
  go_wp2_with fail
  refine (HALL.out _).mono ?_
  rintro e w1 ⟨v, rfl, hown, hb1⟩
  obtain ⟨ov, cv, rfl⟩ := owns_slice hown
  have hE : EI (w1.alloc (.cells #[.slice ov L.length cv, .int .i64 s.size, .int .i64 0, .int .i64 0, .int .i64 0] 67)) w1.heap.size L 0 s.size (.slice ov L.length cv) 0 0 := by
    refine ⟨by simpa using heap_alloc_new w1 _, (Row.owned hown).below (bel_new (Below.refl _ _) _), ?_, Nat.zero_le _, by omega⟩
    intro b off cap e
    simp only [Value.slice.injEq, true_and] at e
    obtain ⟨rfl, rfl⟩ := e
    have := (hown.lt b rfl).2
    omega
  have hbw := bel_new hb1 (.cells #[.slice ov L.length cv, .int .i64 s.size, .int .i64 0, .int .i64 0, .int .i64 0] 67)
  obtain ⟨p, hp⟩ : ∃ p, p = w1.heap.size := ⟨_, rfl⟩
  obtain ⟨X, hX⟩ : ∃ X, X = w1.alloc (.cells #[.slice ov L.length cv, .int .i64 s.size, .int .i64 0, .int .i64 0, .int .i64 0] 67) := ⟨_, rfl⟩
  have hpw : w.heap.size ≤ p := by rw [hp]; exact hb1.size
  go_wp2_with fail
  rw [← hX] at hE hbw ⊢
  rw [← hp] at hE ⊢
  have H1 := Lib.hid (And.intro hE (And.intro hbw hpw))
  clear hE hbw hp hX hown hb1
  refine (rclass_plain p 0 s.size L _ 0 _ H1.out.1 HS.out (by omega) H94.out).mono ?_
  rintro e w2 (⟨acc, u, hel, rfl, hE2, hown2, hC2⟩ | ⟨j, kk, u, hel, rfl, hE2, hC2⟩)
  · obtain ⟨S, hS⟩ : ∃ S, S = Ru.nrm acc := ⟨_, rfl⟩
    have hown3 : w2.ownsRow X.heap.size 43 2 u S.length (flatK .i32 S) := by rw [hS]; exact hown2
    have hb2 : Below w.heap.size w w2 := H1.out.2.1.trans ⟨hC2.os, hC2.tape, hC2.output, hC2.size, fun k hk => hC2.block k (by have := H1.out.2.1.size; omega) (by have := H1.out.2.2; omega)⟩
    obtain ⟨ou, cu, rfl⟩ := owns_slice hown3
    obtain ⟨⟨c0, c1, c2, c3, c4⟩, f2, f3, f4⟩ := cells5_of hE2.hh
    have hcl : clsF L s.size = if S = [] then .bad s.size else .ok S := by
      unfold clsF
      rw [if_neg H94.out]
      have h2 := hel
      try simp only [Nat.zero_add] at h2
      rw [h2]
      simp only [if_neg H94.out]
      rw [hS]
    have H2 := Lib.hid (And.intro hE2 (And.intro hown3 (And.intro hb2 hcl)))
    clear hE2 hown2 hown3 hC2 hb2 hcl hel hS
    by_cases hz : S.length = 0
    · have t0 : ((S.length : Int) == 0) = true := beq_iff_eq.2 (by omega)
      have t1 : (S.length == 0) = true := beq_iff_eq.2 hz
      have hcl : clsF L s.size = .bad s.size := by rw [H2.out.2.2.2, if_pos (List.eq_nil_of_length_eq_zero hz)]
      have HCL := Lib.hid hcl
      clear hcl hz
      go_wp2_with fail
      refine (rfail_any p L.length s.size L _ 0 _ H2.out.1).mono ?_
      rintro e w3 ⟨rfl, hE3, hC3⟩
      have hplc : plc L s.size L.length = s.size := by unfold plc; rw [List.getElem?_eq_none (by omega)]
      rw [hplc] at hE3
      have hb3 : Below w.heap.size w w3 := H2.out.2.2.1.trans ⟨hC3.os, hC3.tape, hC3.output, hC3.size, fun k hk => hC3.block k (by have := H2.out.2.2.1.size; omega) (by have := H1.out.2.2; omega)⟩
      clear c0 c1 c2 c3 c4 f2 f3 f4 hplc
      obtain ⟨⟨c0, c1, c2, c3, c4⟩, f2, f3, f4⟩ := cells5_of hE3.hh
      have HB := Lib.hid hb3
      clear hE3 hC3 hb3
      go_wp2_with fail
      go_quiet (fail)
      go_wp2
      exact bodyPost_ret (v := .tuple #[.slice none 0 0, .int .i64 3, .int .i64 s.size]) (by simp [results, Try.results11, go_sem]; try rfl) rfl (clsF_no HCL.out rfl (below_drewN HB.out _))
    · have t0 : ((S.length : Int) == 0) = false := beq_eq_false_iff_ne.2 (by omega)
      have t1 : (S.length == 0) = false := beq_eq_false_iff_ne.2 hz
      have hcl : clsF L s.size = .ok S := by rw [H2.out.2.2.2, if_neg (fun e => hz (by rw [e]; rfl))]
      have HCL := Lib.hid hcl
      clear hcl hz
      go_wp2
      exact bodyPost_ret (v := .tuple #[.slice ou S.length cu, .int .i64 0, .int .i64 0]) (by simp [results, Try.results11, go_sem]; try rfl) rfl (by unfold ClsPostF; rw [HCL.out]; exact ⟨_, rfl, owns_base H2.out.2.1 H1.out.2.1.size, H2.out.2.2.1⟩)
  · have hb2 : Below w.heap.size w w2 := H1.out.2.1.trans ⟨hC2.os, hC2.tape, hC2.output, hC2.size, fun k hk => hC2.block k (by have := H1.out.2.1.size; omega) (by have := H1.out.2.2; omega)⟩
    obtain ⟨⟨c0, c1, c2, c3, c4⟩, f2, f3, f4⟩ := cells5_of hE2.hh
    have hcl : clsF L s.size = .bad (plc L s.size j) := by
      unfold clsF
      rw [if_neg H94.out]
      have h2 := hel
      try simp only [Nat.zero_add] at h2
      rw [h2]
    have H2 := Lib.hid (And.intro hb2 hcl)
    clear hE2 hC2 hb2 hcl hel
    go_wp2_with fail
    go_quiet (fail)
    go_wp2
    exact bodyPost_ret (v := .tuple #[.slice none 0 0, .int .i64 3, .int .i64 (plc L s.size j)]) (by simp [results, Try.results11, go_sem]; try rfl) rfl (clsF_no H2.out.2 rfl (below_drewN H2.out.1 _))

theorem rClass_any (s : ByteArray) (w : World) (hs : s.size ≤ 1000) : Calls Try.prog 11 #[.string s] w (ClsPostF (all 0 (sb s)) s.size w) := by
  by_cases h : pk (all 0 (sb s)) 0 = 94
  · exact rClass_not s w hs h
  · exact rClass_plain s w hs h
end Go.Proofs.Ytkngppkchaadhaa
