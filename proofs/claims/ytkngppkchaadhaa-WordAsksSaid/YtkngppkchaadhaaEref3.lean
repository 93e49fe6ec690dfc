/- goboref11.E: member, class; goboref11.Class. -/
import Derived.Test.YtkngppkchaadhaaEref2
set_option linter.unusedVariables false
set_option linter.unusedSimpArgs false
namespace Go.Proofs.Ytkngppkchaadhaa
open Go.RowKit De Wd

set_option maxHeartbeats 4000000 in
set_option maxRecDepth 100000 in
theorem member_any (p k n : Nat) (L : Its) (v : Value) (wh : Int) (w : World) (h : EI w p L k n v 0 wh) (hsc : Sc L) :
    Calls Try.prog 52 #[.pointer (some ⟨p, 0, none⟩)] w (RPostE (lt L k) p L n v wh w) := by
  have H := Lib.hid h
  have hsm : k ≤ 1000000 := Nat.le_trans h.le h.small
  have hpk := hsc.pk k
  have HS := Lib.hid hsc
  clear h hsc
  have ham := fun w => among_any ⟨#[47, 124, 42, 40, 41, 91, 93, 92, 45]⟩ (pk L k) w (by decide)
  rw [sb4] at ham
  go_enter Try.func52, Try.ntmps52
  go_wp2_with fail
  refine (rtake_any p k n L v wh 92 _ H.out (by decide)).mono ?_
  rintro e w1 (⟨ht, rfl, hE, hC⟩ | ⟨ht, rfl, hE, hC⟩)
  · have hlt : lt L k = esc L (k + 1) := by unfold lt; rw [if_pos ⟨by omega, by rw [ht]; decide⟩, if_pos ht]
    have H1 := Lib.hid (And.intro hlt (And.intro hE hC))
    clear hlt hE hC ht hpk ham
    go_wp2_with fail
    refine (escape_any p (k + 1) n L v wh _ H1.out.2.1 HS.out).mono ?_
    intro e w2 hpost
    rcases hpost.cases with ⟨r, k', hx, rfl, hE2, hC2⟩ | ⟨j, kk, hx, rfl, hE2, hC2⟩
    · have HZ := Lib.hid (And.intro (H1.out.1.trans hx) (And.intro hE2 (H1.out.2.2.trans hC2)))
      clear hpost hx hE2 hC2
      go_wp2
      go_ret
      exact re_yes HZ.out.1 HZ.out.2.1 HZ.out.2.2
    · have HZ := Lib.hid (And.intro (H1.out.1.trans hx) (And.intro hE2 (H1.out.2.2.trans hC2)))
      clear hpost hx hE2 hC2
      go_wp2
      go_ret
      exact re_no HZ.out.1 HZ.out.2.1 HZ.out.2.2
  · have H1 := Lib.hid (And.intro hE hC)
    clear hE hC
    go_wp2_with fail
    refine (rpeek_any p k n L v wh _ H1.out.1).mono ?_
    rintro e w2 ⟨rfl, q, rfl⟩
    have H2 := Lib.hid (And.intro (H1.out.1.drewN q) (H1.out.2.trans (Ch.drewN p q)))
    by_cases h32 : pk L k < 32
    · have d32 : decide (pk L k < 32) = true := by simpa using h32
      have hlt : lt L k = .error k := by
        unfold lt okL
        rw [if_neg]
        rintro ⟨_, h2⟩
        simp only [Bool.and_eq_true, decide_eq_true_eq] at h2
        omega
      have HL := Lib.hid hlt
      clear hlt h32 ht hpk ham
      go_wp2_with fail
      refine (rfail_any p k n L v wh _ H2.out.1).mono ?_
      rintro e w5 ⟨rfl, hE5, hC5⟩
      have HF := Lib.hid (And.intro hE5 hC5)
      clear hE5 hC5
      go_wp2
      go_ret
      exact re_no HL.out HF.out.1 (H2.out.2.trans HF.out.2)
    · have d32 : decide (pk L k < 32) = false := by simpa using h32
      by_cases hm : pk L k ∈ lst4
      · rw [decide_eq_true hm] at ham
        have HAM := Lib.hid ham
        have hlt : lt L k = .error k := by
          unfold lt okL
          rw [if_neg]
          rintro ⟨_, h2⟩
          simp only [Bool.and_eq_true, decide_eq_true_eq, Bool.not_eq_true', decide_eq_false_iff_not] at h2
          apply h2.2
          unfold lst4 at hm
          unfold lst1
          simp only [List.mem_cons, List.not_mem_nil, or_false] at hm ⊢
          omega
        have HL := Lib.hid hlt
        clear hlt h32 ht hpk ham hm
        go_wp2_with fail
        refine (HAM.out _).mono ?_
        rintro e w3 ⟨rfl, rfl⟩
        go_wp2_with fail
        refine (rfail_any p k n L v wh _ H2.out.1).mono ?_
        rintro e w5 ⟨rfl, hE5, hC5⟩
        have HF := Lib.hid (And.intro hE5 hC5)
        clear hE5 hC5
        go_wp2
        go_ret
        exact re_no HL.out HF.out.1 (H2.out.2.trans HF.out.2)
      · rw [decide_eq_false hm] at ham
        have HAM := Lib.hid ham
        have hlt : lt L k = .ok (pk L k, k + 1) := by
          unfold lt okL
          rw [if_pos, if_neg ht]
          refine ⟨by omega, ?_⟩
          simp only [Bool.and_eq_true, decide_eq_true_eq, Bool.not_eq_true', decide_eq_false_iff_not]
          refine ⟨by omega, fun h1 => hm ?_⟩
          unfold lst1 at h1
          unfold lst4
          simp only [List.mem_cons, List.not_mem_nil, or_false] at h1 ⊢
          omega
        have HL := Lib.hid hlt
        have hkl : k < L.length := pk_lt (L := L) (k := k) (by omega)
        clear hlt h32 ht hpk ham hm
        obtain ⟨⟨c0, c1, c2, c3, c4⟩, f2, f3, f4⟩ := cells5_of H2.out.1.hh
        go_wp2_with fail
        refine (HAM.out _).mono ?_
        rintro e w3 ⟨rfl, rfl⟩
        go_wp2
        go_ret
        exact re_yes HL.out (by simpa using H2.out.1.at (k' := k + 1) (by omega)) (H2.out.2.trans (Ch.set _ p 2 _))
theorem owns_ch {w w' : World} {base size n p : Nat} {e : TypeId} {v : Value} {xs : List Value} (h : w.ownsRow base e size v n xs) (hc : Ch w w' p) (hp : p < base) : w'.ownsRow base e size v n xs := by
  obtain ⟨h1, ⟨rfl, rfl⟩ | ⟨g, cap, cur, rfl, hg, hb, hr⟩⟩ := h
  · exact ⟨h1, .inl ⟨rfl, rfl⟩⟩
  · refine ⟨h1, .inr ⟨g, cap, cur, rfl, hg, ?_, hr⟩⟩
    have := hb
    rw [hc.block g (hp_lt hb) (by omega)]; exact hb
theorem EI.keep {w a b : World} {p k0 k n : Nat} {L : Its} {v : Value} {x y x' y' : Int} (h0 : EI w p L k0 n v x' y') (h : EI a p L k n v x y) (hb : Below w.heap.size a b) : EI b p L k n v x y := by
  have hp := h0.lt
  refine ⟨by rw [hb.block p hp]; exact h.hh, ?_, h.far, h.le, h.small⟩
  obtain ⟨o, cap, rfl, h1, h2, h3⟩ := h.row
  obtain ⟨o', cap', e, _, _, h3'⟩ := h0.row
  simp only [Value.slice.injEq, true_and] at e
  obtain ⟨rfl, rfl⟩ := e
  refine ⟨o, cap, rfl, h1, h2, ?_⟩
  rcases h3 with h3 | ⟨bb, off, rfl, hbb, hc⟩
  · exact .inl h3
  · rcases h3' with h3' | ⟨b', off', e, hb', _⟩
    · exact .inl ⟨h3'.1, fun e => by cases e⟩
    · simp only [Option.some.injEq, Addr.mk.injEq, and_true] at e
      obtain ⟨rfl, rfl⟩ := e
      refine .inr ⟨bb, off, rfl, Nat.lt_of_lt_of_le hbb hb.size, fun j u hu => ?_⟩
      rw [← hc j u hu]
      unfold World.cell?
      rw [hb.block bb hb']
theorem Ch.keep {w a b : World} {p : Nat} (h : Ch w a p) (hb : Below w.heap.size a b) : Ch w b p :=
  ⟨hb.os.trans h.os, hb.tape.trans h.tape, hb.output.trans h.output, Nat.le_trans h.size hb.size, fun j hj hp => by rw [hb.block j hj, h.block j hj hp]⟩
/-- the loop's rows -/
structure SAt (w wr : World) (p : Nat) (L : Its) (u : Value) (acc : List Ru.Pc) : Prop where
  ch : Ch w wr p
  own : wr.ownsRow w.heap.size 43 2 u acc.length (flatK .i32 acc)
  z : i32s acc
  len : acc.length ≤ L.length + 1
structure OkAt (w wr : World) (p : Nat) (L : Its) (n : Nat) (v : Value) (wh : Int) (u : Value) (acc : List Ru.Pc) (g k k0 : Nat) : Prop where
  s : SAt w wr p L u acc
  e : EI wr p L k n v 0 wh
  le : acc.length ≤ k
  eq : elsF L (L.length + 2) [] k0 = elsF L g acc k
  fuel : L.length - k < g
structure BadAt (w wr : World) (p : Nat) (L : Its) (n : Nat) (v : Value) (u : Value) (acc : List Ru.Pc) (j kk k0 : Nat) : Prop where
  s : SAt w wr p L u acc
  e : EI wr p L kk n v 3 (plc L n j)
  eq : elsF L (L.length + 2) [] k0 = .error j
theorem i32s_one {acc : List Ru.Pc} {a b : Int} (h : i32s acc) (ha : -2147483648 ≤ a ∧ a ≤ 2147483647) (hb : -2147483648 ≤ b ∧ b ≤ 2147483647) : i32s (acc ++ [(a, b)]) := by
  intro q hq
  rcases List.mem_append.1 hq with h1 | h1
  · exact h q h1
  · simp only [List.mem_cons, List.not_mem_nil, or_false] at h1; subst h1; exact ⟨ha, hb⟩
/-- what class answers -/
def ClassPost (nb : Bool) (L : Its) (p n k0 : Nat) (v : Value) (wh : Int) (w : World) (e : Ending) (w' : World) : Prop :=
  (∃ acc u, elsF L (L.length + 2) [] k0 = .ok acc ∧ e = .returned u ∧ EI w' p L L.length n v 0 wh ∧ w'.ownsRow w.heap.size 43 2 u (if nb = true then Ru.nt acc else Ru.nrm acc).length (flatK .i32 (if nb = true then Ru.nt acc else Ru.nrm acc)) ∧ Ch w w' p) ∨
  (∃ j kk u, elsF L (L.length + 2) [] k0 = .error j ∧ e = .returned u ∧ EI w' p L kk n v 3 (plc L n j) ∧ Ch w w' p)

set_option maxHeartbeats 16000000 in
set_option maxRecDepth 1000000 in
theorem rclass_not (p k n : Nat) (L : Its) (v : Value) (wh : Int) (w : World) (h : EI w p L k n v 0 wh) (hsc : Sc L) (hL : L.length ≤ 1000) (h94 : pk L k = 94) :
    Calls Try.prog 27 #[.pointer (some ⟨p, 0, none⟩), .int .i32 (-1)] w (ClassPost true L p n (k + 1) v wh w) := by
  have H := Lib.hid h
  have HS := Lib.hid hsc
  have hpl := h.lt
  have H94 := Lib.hid h94
  clear h hsc h94
  go_enter Try.func27, Try.ntmps27
  go_wp2_with fail
  refine (rtake_any p k n L v wh 94 _ H.out (by decide)).mono ?_
  rintro e w1 (⟨ht, rfl, hE, hC⟩ | ⟨ht, rfl, hE, hC⟩)
  · obtain ⟨k0, hk0⟩ : ∃ k0, k0 = k + 1 := ⟨_, rfl⟩
    rw [← hk0] at hE ⊢
    have HK := Lib.hid (And.intro hE hC)
    have HK0 := Lib.hid hk0
    clear hE hC hk0 ht
    obtain ⟨ii, hi, hz0, hz1, hz2⟩ := infoRange
    go_wp2_with fail
    go_loopg [6] (L.length + 2) (fun g u wx => (∃ (acc : List Ru.Pc) (k : Nat) (o : Option Addr) (cp : Nat), u = .slice o acc.length cp ∧ SAt w wx p L u acc ∧ EI wx p L k n v 0 wh ∧ acc.length ≤ k ∧ elsF L (L.length + 2) [] k0 = elsF L g acc k ∧ L.length - k < g) ∨ (∃ (acc : List Ru.Pc) (j kk : Nat) (o : Option Addr) (cp : Nat), u = .slice o acc.length cp ∧ SAt w wx p L u acc ∧ EI wx p L kk n v 3 (plc L n j) ∧ elsF L (L.length + 2) [] k0 = .error j))
    case atStart => exact .inl ⟨[], k0, none, 0, rfl, ⟨HK.out.2, World.ownsRow_nil _ _ _ _, fun q hq => by simp at hq, Nat.zero_le _⟩, HK.out.1, Nat.zero_le _, rfl, by omega⟩
    case round =>
      rcases hrel with ⟨acc, k, ou, cu, rfl, hS0, hE0, hle0, heq0, hfu0⟩ | ⟨acc, j, kk, ou, cu, rfl, hS0, hE0, heq0⟩
      · obtain ⟨wo, rfl⟩ : ∃ wo : World, wo = wr := ⟨_, rfl⟩
        obtain ⟨g, rfl⟩ : ∃ g, gk = g + 1 := ⟨gk - 1, by omega⟩
        have HT := Lib.hid (OkAt.mk hS0 hE0 hle0 heq0 hfu0)
        have hkl := hE0.le
        have hal := hS0.len
        have hkg := hfu0
        obtain ⟨⟨c0, c1, c2, c3, c4⟩, f2, f3, f4⟩ := cells5_of hE0.hh
        have hvs : ∃ ov cv, v = .slice ov L.length cv := by obtain ⟨o, cap, e, _⟩ := hE0.row; exact ⟨o, cap, e⟩
        clear hS0 hE0 heq0 hfu0
        by_cases hgo : acc ≠ [] ∧ L.length ≤ k
        · have hkn : k = L.length := by omega
          have hac : (acc.length == 0) = false := beq_eq_false_iff_ne.2 (by have := List.length_pos_iff.2 hgo.1; omega)
          have hac2 : ((acc.length : Int) == 0) = false := beq_eq_false_iff_ne.2 (by have := List.length_pos_iff.2 hgo.1; omega)
          have hkk : decide ((k : Int) < (L.length : Int)) = false := by simp; omega
          have hkk2 : decide (k < L.length) = false := by simp; omega
          have HE := Lib.hid (show elsF L (L.length + 2) [] k0 = .ok acc by rw [HT.out.eq, elsF_stop hgo.1 hgo.2])
          have HKN := Lib.hid hkn
          clear hgo hkn hle0
          obtain ⟨ov, cv, rfl⟩ := hvs
          go_wp2_with fail
          go_quiet (fail)
          have hE1 := HT.out.e.drewN nq
          have hC1 := HT.out.s.ch.trans (Ch.drewN p nq)
          have hO1 := owns_drewN HT.out.s.own nq
          generalize wo.drewN nq = X at hE1 hC1 hO1 ⊢
          have H1 := Lib.hid (And.intro hE1 (And.intro hC1 hO1))
          clear hE1 hC1 hO1 c0 c1 c2 c3 c4 f2 f3 f4
          go_wp2_with fail
          refine (refNot_any acc _ _ (Row.owned H1.out.2.2) HT.out.s.z (by omega)).mono ?_
          rintro e w8 ⟨u8, rfl, hown8, hb8⟩
          have HZ := Lib.hid (And.intro hown8 hb8)
          clear hown8 hb8
          go_wp2
          go_ret
          have he8 := H1.out.1
          rw [HKN.out] at he8
          exact .inl ⟨acc, _, by rw [← HK0.out]; exact HE.out, rfl, he8.moved HZ.out.2, owns_base HZ.out.1 H1.out.2.1.size, H1.out.2.1.bel' HZ.out.2⟩
        · have hin : acc.length = 0 ∨ (0 < acc.length ∧ k < L.length) := by
            rcases Nat.eq_zero_or_pos acc.length with h | h
            · exact .inl h
            · refine .inr ⟨h, ?_⟩
              rcases Nat.lt_or_ge k L.length with h2 | h2
              · exact h2
              · exact absurd ⟨List.length_pos_iff.1 h, h2⟩ hgo
          rcases hin with hz | ⟨hz, hkl2⟩
          · have hac : (acc.length == 0) = true := beq_iff_eq.2 hz
            have hac2 : ((acc.length : Int) == 0) = true := beq_iff_eq.2 (by omega)
            obtain ⟨hz9, hz8⟩ : acc.length ≤ 0 ∧ True := ⟨by omega, trivial⟩
            clear hz hle0 hvs
            go_wp2_with fail
            go_quiet (fail)
            have hE1 := HT.out.e.drewN nq
            have hC1 := HT.out.s.ch.trans (Ch.drewN p nq)
            have hO1 := owns_drewN HT.out.s.own nq
            generalize wo.drewN nq = X at hE1 hC1 hO1 ⊢
            have H1 := Lib.hid (And.intro hE1 (And.intro hC1 hO1))
            clear hE1 hC1 hO1 c0 c1 c2 c3 c4 f2 f3 f4
            go_wp2_with fail
            refine (member_any p k n L _ wh _ H1.out.1 HS.out).mono ?_
            intro e w2 hpost
            rcases hpost.cases with ⟨a, k1, hx, rfl, hE2, hC2⟩ | ⟨j, kk, hx, rfl, hE2, hC2⟩
            · have hlo := lt_ok HS.out hx
              have ha9 := hlo.2.2.1
              have ha8 := hlo.2.2.2.1
              have H2 := Lib.hid (And.intro hx (And.intro hE2 (And.intro (H1.out.2.1.trans hC2) (owns_ch H1.out.2.2 hC2 hpl))))
              clear hpost hx hE2 hC2
              go_wp2_with fail
              refine (rtake_any p k1 n L _ wh 45 _ H2.out.2.1 (by decide)).mono ?_
              rintro e w3 (⟨h45, rfl, hE3, hC3⟩ | ⟨h45, rfl, hE3, hC3⟩)
              · have H3 := Lib.hid (And.intro h45 (And.intro hE3 (And.intro (H2.out.2.2.1.trans hC3) (owns_ch H2.out.2.2.2 hC3 hpl))))
                have hk1 := hE3.le
                clear h45 hE3 hC3
                obtain ⟨⟨c0, c1, c2, c3, c4⟩, f2, f3, f4⟩ := cells5_of H3.out.2.1.hh
                go_wp2_with fail
                clear c0 c1 c2 c3 c4 f2 f3 f4
                refine (member_any p (k1 + 1) n L _ wh _ H3.out.2.1 HS.out).mono ?_
                intro e w4 hpost
                rcases hpost.cases with ⟨b, k2, hx, rfl, hE4, hC4⟩ | ⟨j, kk, hx, rfl, hE4, hC4⟩
                · have hlo4 := lt_ok HS.out hx
                  have hb9 := hlo4.2.2.1
                  have hb8 := hlo4.2.2.2.1
                  have H4 := Lib.hid (And.intro hx (And.intro hE4 (And.intro (H3.out.2.2.1.trans hC4) (owns_ch H3.out.2.2.2 hC4 hpl))))
                  obtain ⟨⟨c0, c1, c2, c3, c4⟩, f2, f3, f4⟩ := cells5_of hE4.hh
                  clear hpost hx hE4 hC4
                  by_cases hba : b < a
                  · have dba : decide (b < a) = true := by simpa using hba
                    have hel : elF L k = .error (k1 + 1) := by unfold elF; simp only [H2.out.1, if_pos H3.out.1, H4.out.1, if_pos hba]
                    have HE := Lib.hid (show elsF L (L.length + 2) [] k0 = .error (k1 + 1) by rw [HT.out.eq, elsF_bad hgo hel])
                    clear hel hgo
                    have hE5 := H4.out.2.1.at (k' := k1 + 1) hk1
                    have hC5 := H4.out.2.2.1.trans (Ch.set w4 p 2 (.int .i64 ((k1 + 1 : Nat) : Int)))
                    have hO5 := owns_ch H4.out.2.2.2 (Ch.set w4 p 2 (.int .i64 ((k1 + 1 : Nat) : Int))) hpl
                    obtain ⟨X5, hX5⟩ : ∃ X5, X5 = w4.setCell ⟨p, 2, none⟩ (.int .i64 ((k1 + 1 : Nat) : Int)) := ⟨_, rfl⟩
                    rw [← hX5] at hE5 hC5 hO5
                    have H5 := Lib.hid (And.intro hE5 (And.intro hC5 hO5))
                    have HX5 := Lib.hid hX5
                    clear hX5 hE5 hC5 hO5
                    go_wp2_with fail
                    rw [show w4.setCell ⟨p, 2, none⟩ (.int .i64 ((k1 : Int) + 1)) = X5 from HX5.out.symm]
                    clear c0 c1 c2 c3 c4 f2 f3 f4 HX5
                    refine (rfail_any p (k1 + 1) n L _ wh _ H5.out.1).mono ?_
                    rintro e w6 ⟨rfl, hE6, hC6⟩
                    have HO := Lib.hid (And.intro (owns_ch H5.out.2.2 hC6 hpl) (Nat.le_trans H5.out.2.1.size hC6.size))
                    have HC := Lib.hid (H5.out.2.1.trans hC6)
                    have HF := Lib.hid hE6
                    clear hE6 hC6
                    go_wp2_with (at_builtin; refine wpList_append_row _ rfl _ _ 29 rfl w.heap.size 43 ii (.agg #[.int .i32 0, .int .i32 0]) 2 8 Try.underlying29 hi hz0 hz1 hz2 rfl (by decide) (.slice ou acc.length cu) acc.length (flatK .i32 acc) rfl ?hown _ 1 [.int .i32 a, .int .i32 b] rfl ?hrow rfl ?hone ?h63 ?hby ?hbase ?_)
                    case hown => exact HO.out.1.alloc _
                    case hrow => exact rowNew2 _ _ _ _ _ (by simp)
                    case hone => simp [Value.oneCell']
                    case h63 => unfold maxLen; omega
                    case hby => omega
                    case hbase => have := HO.out.2; simp <;> omega
                    intro v' w9 hown9 hgrow9
                    have hb9 : Below w.heap.size w6 w9 := (((Below.refl _ _).alloc HO.out.2 (.cells #[.int .i32 a, .int .i32 b] 43))).grown hgrow9 (by have := HO.out.2; simp; omega) (fun j hj => (HO.out.1.lt j hj).1)
                    obtain ⟨o9, c9, rfl⟩ := owns_slice hown9
                    have hS9 : SAt w w9 p L (.slice o9 (acc.length + 1) c9) (acc ++ [(a, b)]) := ⟨HC.out.keep hb9, by rw [flatK_append, List.length_append]; exact hown9, i32s_one HT.out.s.z ⟨by omega, by omega⟩ ⟨by omega, by omega⟩, by have := HT.out.le; have := HT.out.e.le; simp; omega⟩
                    have HS9 := Lib.hid hS9
                    have HB9 := Lib.hid hb9
                    clear hgrow9 hown9 hb9 hS9
                    go_wp2
                    go_roundg g
                    case measure => omega
                    case rel => exact .inr ⟨acc ++ [(a, b)], _, _, o9, c9, by simp, HS9.out, H.out.keep HF.out HB9.out, HE.out⟩
                  · have dba : decide (b < a) = false := by simpa using hba
                    have hel : elF L k = .ok ((a, b), k2) := by unfold elF; simp only [H2.out.1, if_pos H3.out.1, H4.out.1, if_neg hba]
                    have hel2 := elF_ok HS.out hel
                    have HE := Lib.hid (show elsF L (L.length + 2) [] k0 = elsF L g (acc ++ [(a, b)]) k2 by rw [HT.out.eq, elsF_go hgo hel])
                    clear hel hgo
                    have HO := Lib.hid (And.intro H4.out.2.2.2 H4.out.2.2.1.size)
                    have HC := Lib.hid H4.out.2.2.1
                    go_wp2_with (at_builtin; refine wpList_append_row _ rfl _ _ 29 rfl w.heap.size 43 ii (.agg #[.int .i32 0, .int .i32 0]) 2 8 Try.underlying29 hi hz0 hz1 hz2 rfl (by decide) (.slice ou acc.length cu) acc.length (flatK .i32 acc) rfl ?hown _ 1 [.int .i32 a, .int .i32 b] rfl ?hrow rfl ?hone ?h63 ?hby ?hbase ?_)
                    case hown => exact HO.out.1.alloc _
                    case hrow => exact rowNew2 _ _ _ _ _ (by simp)
                    case hone => simp [Value.oneCell']
                    case h63 => unfold maxLen; omega
                    case hby => omega
                    case hbase => have := HO.out.2; simp <;> omega
                    intro v' w9 hown9 hgrow9
                    have hb9 : Below w.heap.size w4 w9 := (((Below.refl _ _).alloc HO.out.2 (.cells #[.int .i32 a, .int .i32 b] 43))).grown hgrow9 (by have := HO.out.2; simp; omega) (fun j hj => (HO.out.1.lt j hj).1)
                    obtain ⟨o9, c9, rfl⟩ := owns_slice hown9
                    have hS9 : SAt w w9 p L (.slice o9 (acc.length + 1) c9) (acc ++ [(a, b)]) := ⟨HC.out.keep hb9, by rw [flatK_append, List.length_append]; exact hown9, i32s_one HT.out.s.z ⟨by omega, by omega⟩ ⟨by omega, by omega⟩, by have := HT.out.le; have := HT.out.e.le; simp; omega⟩
                    have HS9 := Lib.hid hS9
                    have HB9 := Lib.hid hb9
                    clear hgrow9 hown9 hb9 hS9
                    go_wp2
                    go_roundg g
                    case measure => omega
                    case rel => exact .inl ⟨acc ++ [(a, b)], k2, o9, c9, by simp, HS9.out, H.out.keep H4.out.2.1 HB9.out, by have := HT.out.le; simp; omega, HE.out, by have := HT.out.fuel; omega⟩
                · have hel : elF L k = .error j := by unfold elF; simp only [H2.out.1, if_pos H3.out.1, hx]
                  have HE := Lib.hid (show elsF L (L.length + 2) [] k0 = .error j by rw [HT.out.eq, elsF_bad hgo hel])
                  have HO := Lib.hid (And.intro (owns_ch H3.out.2.2.2 hC4 hpl) (Nat.le_trans H3.out.2.2.1.size hC4.size))
                  have HC := Lib.hid (H3.out.2.2.1.trans hC4)
                  have HF := Lib.hid hE4
                  obtain ⟨⟨c0, c1, c2, c3, c4⟩, f2, f3, f4⟩ := cells5_of hE4.hh
                  clear hel hgo hpost hx hE4 hC4
                  go_wp2_with (at_builtin; refine wpList_append_row _ rfl _ _ 29 rfl w.heap.size 43 ii (.agg #[.int .i32 0, .int .i32 0]) 2 8 Try.underlying29 hi hz0 hz1 hz2 rfl (by decide) (.slice ou acc.length cu) acc.length (flatK .i32 acc) rfl ?hown _ 1 [.int .i32 a, .int .i32 0] rfl ?hrow rfl ?hone ?h63 ?hby ?hbase ?_)
                  case hown => exact HO.out.1.alloc _
                  case hrow => exact rowNew2 _ _ _ _ _ (by simp)
                  case hone => simp [Value.oneCell']
                  case h63 => unfold maxLen; omega
                  case hby => omega
                  case hbase => have := HO.out.2; simp <;> omega
                  intro v' w9 hown9 hgrow9
                  have hb9 : Below w.heap.size w4 w9 := (((Below.refl _ _).alloc HO.out.2 (.cells #[.int .i32 a, .int .i32 0] 43))).grown hgrow9 (by have := HO.out.2; simp; omega) (fun j hj => (HO.out.1.lt j hj).1)
                  obtain ⟨o9, c9, rfl⟩ := owns_slice hown9
                  have hS9 : SAt w w9 p L (.slice o9 (acc.length + 1) c9) (acc ++ [(a, 0)]) := ⟨HC.out.keep hb9, by rw [flatK_append, List.length_append]; exact hown9, i32s_one HT.out.s.z ⟨by omega, by omega⟩ ⟨by omega, by omega⟩, by have := HT.out.le; have := HT.out.e.le; simp; omega⟩
                  have HS9 := Lib.hid hS9
                  have HB9 := Lib.hid hb9
                  clear hgrow9 hown9 hb9 hS9
                  go_wp2
                  go_roundg g
                  case measure => omega
                  case rel => exact .inr ⟨acc ++ [(a, 0)], _, _, o9, c9, by simp, HS9.out, H.out.keep HF.out HB9.out, HE.out⟩
              · have hel : elF L k = .ok ((a, a), k1) := by unfold elF; simp only [H2.out.1, if_neg h45]
                have hel2 := elF_ok HS.out hel
                have HE := Lib.hid (show elsF L (L.length + 2) [] k0 = elsF L g (acc ++ [(a, a)]) k1 by rw [HT.out.eq, elsF_go hgo hel])
                have HO := Lib.hid (And.intro (owns_ch H2.out.2.2.2 hC3 hpl) (Nat.le_trans H2.out.2.2.1.size hC3.size))
                have HC := Lib.hid (H2.out.2.2.1.trans hC3)
                have HF := Lib.hid hE3
                clear hel hgo h45 hE3 hC3
                go_wp2_with (at_builtin; refine wpList_append_row _ rfl _ _ 29 rfl w.heap.size 43 ii (.agg #[.int .i32 0, .int .i32 0]) 2 8 Try.underlying29 hi hz0 hz1 hz2 rfl (by decide) (.slice ou acc.length cu) acc.length (flatK .i32 acc) rfl ?hown _ 1 [.int .i32 a, .int .i32 a] rfl ?hrow rfl ?hone ?h63 ?hby ?hbase ?_)
                case hown => exact HO.out.1.alloc _
                case hrow => exact rowNew2 _ _ _ _ _ (by simp)
                case hone => simp [Value.oneCell']
                case h63 => unfold maxLen; omega
                case hby => omega
                case hbase => have := HO.out.2; simp <;> omega
                intro v' w9 hown9 hgrow9
                have hb9 : Below w.heap.size w3 w9 := (((Below.refl _ _).alloc HO.out.2 (.cells #[.int .i32 a, .int .i32 a] 43))).grown hgrow9 (by have := HO.out.2; simp; omega) (fun j hj => (HO.out.1.lt j hj).1)
                obtain ⟨o9, c9, rfl⟩ := owns_slice hown9
                have hS9 : SAt w w9 p L (.slice o9 (acc.length + 1) c9) (acc ++ [(a, a)]) := ⟨HC.out.keep hb9, by rw [flatK_append, List.length_append]; exact hown9, i32s_one HT.out.s.z ⟨by omega, by omega⟩ ⟨by omega, by omega⟩, by have := HT.out.le; have := HT.out.e.le; simp; omega⟩
                have HS9 := Lib.hid hS9
                have HB9 := Lib.hid hb9
                clear hgrow9 hown9 hb9 hS9
                go_wp2
                go_roundg g
                case measure => omega
                case rel => exact .inl ⟨acc ++ [(a, a)], k1, o9, c9, by simp, HS9.out, H.out.keep HF.out HB9.out, by have := HT.out.le; simp; omega, HE.out, by have := HT.out.fuel; omega⟩
            · have hel : elF L k = .error j := by unfold elF; simp only [hx]
              have HE := Lib.hid (show elsF L (L.length + 2) [] k0 = .error j by rw [HT.out.eq, elsF_bad hgo hel])
              have H2 := Lib.hid (And.intro hE2 (And.intro (H1.out.2.1.trans hC2) (owns_ch H1.out.2.2 hC2 hpl)))
              clear hel hgo hpost hx hE2 hC2
              go_wp2_with fail
              refine (rtake_bad p kk n L _ _ 45 _ H2.out.1 (by decide)).mono ?_
              rintro e w3 ⟨rfl, hE3, hC3⟩
              have HO := Lib.hid (And.intro (owns_ch H2.out.2.2 hC3 hpl) (Nat.le_trans H2.out.2.1.size hC3.size))
              have HC := Lib.hid (H2.out.2.1.trans hC3)
              have HF := Lib.hid hE3
              clear hE3 hC3
              go_wp2_with (at_builtin; refine wpList_append_row _ rfl _ _ 29 rfl w.heap.size 43 ii (.agg #[.int .i32 0, .int .i32 0]) 2 8 Try.underlying29 hi hz0 hz1 hz2 rfl (by decide) (.slice ou acc.length cu) acc.length (flatK .i32 acc) rfl ?hown _ 1 [.int .i32 0, .int .i32 0] rfl ?hrow rfl ?hone ?h63 ?hby ?hbase ?_)
              case hown => exact HO.out.1.alloc _
              case hrow => exact rowNew2 _ _ _ _ _ (by simp)
              case hone => simp [Value.oneCell']
              case h63 => unfold maxLen; omega
              case hby => omega
              case hbase => have := HO.out.2; simp <;> omega
              intro v' w9 hown9 hgrow9
              have hb9 : Below w.heap.size w3 w9 := (((Below.refl _ _).alloc HO.out.2 (.cells #[.int .i32 0, .int .i32 0] 43))).grown hgrow9 (by have := HO.out.2; simp; omega) (fun j hj => (HO.out.1.lt j hj).1)
              obtain ⟨o9, c9, rfl⟩ := owns_slice hown9
              have hS9 : SAt w w9 p L (.slice o9 (acc.length + 1) c9) (acc ++ [(0, 0)]) := ⟨HC.out.keep hb9, by rw [flatK_append, List.length_append]; exact hown9, i32s_one HT.out.s.z ⟨by omega, by omega⟩ ⟨by omega, by omega⟩, by have := HT.out.le; have := HT.out.e.le; simp; omega⟩
              have HS9 := Lib.hid hS9
              have HB9 := Lib.hid hb9
              clear hgrow9 hown9 hb9 hS9
              go_wp2
              go_roundg g
              case measure => omega
              case rel => exact .inr ⟨acc ++ [(0, 0)], _, _, o9, c9, by simp, HS9.out, H.out.keep HF.out HB9.out, HE.out⟩
          · have hac : (acc.length == 0) = false := beq_eq_false_iff_ne.2 (by omega)
            have hac2 : ((acc.length : Int) == 0) = false := beq_eq_false_iff_ne.2 (by omega)
            have hkk : decide ((k : Int) < (L.length : Int)) = true := by simp; omega
            have hkk2 : decide (k < L.length) = true := by simp; omega
            clear hle0
            obtain ⟨ov, cv, rfl⟩ := hvs
            go_wp2_with fail
            go_quiet (fail)
            have hE1 := HT.out.e.drewN nq
            have hC1 := HT.out.s.ch.trans (Ch.drewN p nq)
            have hO1 := owns_drewN HT.out.s.own nq
            generalize wo.drewN nq = X at hE1 hC1 hO1 ⊢
            have H1 := Lib.hid (And.intro hE1 (And.intro hC1 hO1))
            clear hE1 hC1 hO1 c0 c1 c2 c3 c4 f2 f3 f4
            go_wp2_with fail
            refine (member_any p k n L _ wh _ H1.out.1 HS.out).mono ?_
            intro e w2 hpost
            rcases hpost.cases with ⟨a, k1, hx, rfl, hE2, hC2⟩ | ⟨j, kk, hx, rfl, hE2, hC2⟩
            · have hlo := lt_ok HS.out hx
              have ha9 := hlo.2.2.1
              have ha8 := hlo.2.2.2.1
              have H2 := Lib.hid (And.intro hx (And.intro hE2 (And.intro (H1.out.2.1.trans hC2) (owns_ch H1.out.2.2 hC2 hpl))))
              clear hpost hx hE2 hC2
              go_wp2_with fail
              refine (rtake_any p k1 n L _ wh 45 _ H2.out.2.1 (by decide)).mono ?_
              rintro e w3 (⟨h45, rfl, hE3, hC3⟩ | ⟨h45, rfl, hE3, hC3⟩)
              · have H3 := Lib.hid (And.intro h45 (And.intro hE3 (And.intro (H2.out.2.2.1.trans hC3) (owns_ch H2.out.2.2.2 hC3 hpl))))
                have hk1 := hE3.le
                clear h45 hE3 hC3
                obtain ⟨⟨c0, c1, c2, c3, c4⟩, f2, f3, f4⟩ := cells5_of H3.out.2.1.hh
                go_wp2_with fail
                clear c0 c1 c2 c3 c4 f2 f3 f4
                refine (member_any p (k1 + 1) n L _ wh _ H3.out.2.1 HS.out).mono ?_
                intro e w4 hpost
                rcases hpost.cases with ⟨b, k2, hx, rfl, hE4, hC4⟩ | ⟨j, kk, hx, rfl, hE4, hC4⟩
                · have hlo4 := lt_ok HS.out hx
                  have hb9 := hlo4.2.2.1
                  have hb8 := hlo4.2.2.2.1
                  have H4 := Lib.hid (And.intro hx (And.intro hE4 (And.intro (H3.out.2.2.1.trans hC4) (owns_ch H3.out.2.2.2 hC4 hpl))))
                  obtain ⟨⟨c0, c1, c2, c3, c4⟩, f2, f3, f4⟩ := cells5_of hE4.hh
                  clear hpost hx hE4 hC4
                  by_cases hba : b < a
                  · have dba : decide (b < a) = true := by simpa using hba
                    have hel : elF L k = .error (k1 + 1) := by unfold elF; simp only [H2.out.1, if_pos H3.out.1, H4.out.1, if_pos hba]
                    have HE := Lib.hid (show elsF L (L.length + 2) [] k0 = .error (k1 + 1) by rw [HT.out.eq, elsF_bad hgo hel])
                    clear hel hgo
                    have hE5 := H4.out.2.1.at (k' := k1 + 1) hk1
                    have hC5 := H4.out.2.2.1.trans (Ch.set w4 p 2 (.int .i64 ((k1 + 1 : Nat) : Int)))
                    have hO5 := owns_ch H4.out.2.2.2 (Ch.set w4 p 2 (.int .i64 ((k1 + 1 : Nat) : Int))) hpl
                    obtain ⟨X5, hX5⟩ : ∃ X5, X5 = w4.setCell ⟨p, 2, none⟩ (.int .i64 ((k1 + 1 : Nat) : Int)) := ⟨_, rfl⟩
                    rw [← hX5] at hE5 hC5 hO5
                    have H5 := Lib.hid (And.intro hE5 (And.intro hC5 hO5))
                    have HX5 := Lib.hid hX5
                    clear hX5 hE5 hC5 hO5
                    go_wp2_with fail
                    rw [show w4.setCell ⟨p, 2, none⟩ (.int .i64 ((k1 : Int) + 1)) = X5 from HX5.out.symm]
                    clear c0 c1 c2 c3 c4 f2 f3 f4 HX5
                    refine (rfail_any p (k1 + 1) n L _ wh _ H5.out.1).mono ?_
                    rintro e w6 ⟨rfl, hE6, hC6⟩
                    have HO := Lib.hid (And.intro (owns_ch H5.out.2.2 hC6 hpl) (Nat.le_trans H5.out.2.1.size hC6.size))
                    have HC := Lib.hid (H5.out.2.1.trans hC6)
                    have HF := Lib.hid hE6
                    clear hE6 hC6
                    go_wp2_with (at_builtin; refine wpList_append_row _ rfl _ _ 29 rfl w.heap.size 43 ii (.agg #[.int .i32 0, .int .i32 0]) 2 8 Try.underlying29 hi hz0 hz1 hz2 rfl (by decide) (.slice ou acc.length cu) acc.length (flatK .i32 acc) rfl ?hown _ 1 [.int .i32 a, .int .i32 b] rfl ?hrow rfl ?hone ?h63 ?hby ?hbase ?_)
                    case hown => exact HO.out.1.alloc _
                    case hrow => exact rowNew2 _ _ _ _ _ (by simp)
                    case hone => simp [Value.oneCell']
                    case h63 => unfold maxLen; omega
                    case hby => omega
                    case hbase => have := HO.out.2; simp <;> omega
                    intro v' w9 hown9 hgrow9
                    have hb9 : Below w.heap.size w6 w9 := (((Below.refl _ _).alloc HO.out.2 (.cells #[.int .i32 a, .int .i32 b] 43))).grown hgrow9 (by have := HO.out.2; simp; omega) (fun j hj => (HO.out.1.lt j hj).1)
                    obtain ⟨o9, c9, rfl⟩ := owns_slice hown9
                    have hS9 : SAt w w9 p L (.slice o9 (acc.length + 1) c9) (acc ++ [(a, b)]) := ⟨HC.out.keep hb9, by rw [flatK_append, List.length_append]; exact hown9, i32s_one HT.out.s.z ⟨by omega, by omega⟩ ⟨by omega, by omega⟩, by have := HT.out.le; have := HT.out.e.le; simp; omega⟩
                    have HS9 := Lib.hid hS9
                    have HB9 := Lib.hid hb9
                    clear hgrow9 hown9 hb9 hS9
                    go_wp2
                    go_roundg g
                    case measure => omega
                    case rel => exact .inr ⟨acc ++ [(a, b)], _, _, o9, c9, by simp, HS9.out, H.out.keep HF.out HB9.out, HE.out⟩
                  · have dba : decide (b < a) = false := by simpa using hba
                    have hel : elF L k = .ok ((a, b), k2) := by unfold elF; simp only [H2.out.1, if_pos H3.out.1, H4.out.1, if_neg hba]
                    have hel2 := elF_ok HS.out hel
                    have HE := Lib.hid (show elsF L (L.length + 2) [] k0 = elsF L g (acc ++ [(a, b)]) k2 by rw [HT.out.eq, elsF_go hgo hel])
                    clear hel hgo
                    have HO := Lib.hid (And.intro H4.out.2.2.2 H4.out.2.2.1.size)
                    have HC := Lib.hid H4.out.2.2.1
                    go_wp2_with (at_builtin; refine wpList_append_row _ rfl _ _ 29 rfl w.heap.size 43 ii (.agg #[.int .i32 0, .int .i32 0]) 2 8 Try.underlying29 hi hz0 hz1 hz2 rfl (by decide) (.slice ou acc.length cu) acc.length (flatK .i32 acc) rfl ?hown _ 1 [.int .i32 a, .int .i32 b] rfl ?hrow rfl ?hone ?h63 ?hby ?hbase ?_)
                    case hown => exact HO.out.1.alloc _
                    case hrow => exact rowNew2 _ _ _ _ _ (by simp)
                    case hone => simp [Value.oneCell']
                    case h63 => unfold maxLen; omega
                    case hby => omega
                    case hbase => have := HO.out.2; simp <;> omega
                    intro v' w9 hown9 hgrow9
                    have hb9 : Below w.heap.size w4 w9 := (((Below.refl _ _).alloc HO.out.2 (.cells #[.int .i32 a, .int .i32 b] 43))).grown hgrow9 (by have := HO.out.2; simp; omega) (fun j hj => (HO.out.1.lt j hj).1)
                    obtain ⟨o9, c9, rfl⟩ := owns_slice hown9
                    have hS9 : SAt w w9 p L (.slice o9 (acc.length + 1) c9) (acc ++ [(a, b)]) := ⟨HC.out.keep hb9, by rw [flatK_append, List.length_append]; exact hown9, i32s_one HT.out.s.z ⟨by omega, by omega⟩ ⟨by omega, by omega⟩, by have := HT.out.le; have := HT.out.e.le; simp; omega⟩
                    have HS9 := Lib.hid hS9
                    have HB9 := Lib.hid hb9
                    clear hgrow9 hown9 hb9 hS9
                    go_wp2
                    go_roundg g
                    case measure => omega
                    case rel => exact .inl ⟨acc ++ [(a, b)], k2, o9, c9, by simp, HS9.out, H.out.keep H4.out.2.1 HB9.out, by have := HT.out.le; simp; omega, HE.out, by have := HT.out.fuel; omega⟩
                · have hel : elF L k = .error j := by unfold elF; simp only [H2.out.1, if_pos H3.out.1, hx]
                  have HE := Lib.hid (show elsF L (L.length + 2) [] k0 = .error j by rw [HT.out.eq, elsF_bad hgo hel])
                  have HO := Lib.hid (And.intro (owns_ch H3.out.2.2.2 hC4 hpl) (Nat.le_trans H3.out.2.2.1.size hC4.size))
                  have HC := Lib.hid (H3.out.2.2.1.trans hC4)
                  have HF := Lib.hid hE4
                  obtain ⟨⟨c0, c1, c2, c3, c4⟩, f2, f3, f4⟩ := cells5_of hE4.hh
                  clear hel hgo hpost hx hE4 hC4
                  go_wp2_with (at_builtin; refine wpList_append_row _ rfl _ _ 29 rfl w.heap.size 43 ii (.agg #[.int .i32 0, .int .i32 0]) 2 8 Try.underlying29 hi hz0 hz1 hz2 rfl (by decide) (.slice ou acc.length cu) acc.length (flatK .i32 acc) rfl ?hown _ 1 [.int .i32 a, .int .i32 0] rfl ?hrow rfl ?hone ?h63 ?hby ?hbase ?_)
                  case hown => exact HO.out.1.alloc _
                  case hrow => exact rowNew2 _ _ _ _ _ (by simp)
                  case hone => simp [Value.oneCell']
                  case h63 => unfold maxLen; omega
                  case hby => omega
                  case hbase => have := HO.out.2; simp <;> omega
                  intro v' w9 hown9 hgrow9
                  have hb9 : Below w.heap.size w4 w9 := (((Below.refl _ _).alloc HO.out.2 (.cells #[.int .i32 a, .int .i32 0] 43))).grown hgrow9 (by have := HO.out.2; simp; omega) (fun j hj => (HO.out.1.lt j hj).1)
                  obtain ⟨o9, c9, rfl⟩ := owns_slice hown9
                  have hS9 : SAt w w9 p L (.slice o9 (acc.length + 1) c9) (acc ++ [(a, 0)]) := ⟨HC.out.keep hb9, by rw [flatK_append, List.length_append]; exact hown9, i32s_one HT.out.s.z ⟨by omega, by omega⟩ ⟨by omega, by omega⟩, by have := HT.out.le; have := HT.out.e.le; simp; omega⟩
                  have HS9 := Lib.hid hS9
                  have HB9 := Lib.hid hb9
                  clear hgrow9 hown9 hb9 hS9
                  go_wp2
                  go_roundg g
                  case measure => omega
                  case rel => exact .inr ⟨acc ++ [(a, 0)], _, _, o9, c9, by simp, HS9.out, H.out.keep HF.out HB9.out, HE.out⟩
              · have hel : elF L k = .ok ((a, a), k1) := by unfold elF; simp only [H2.out.1, if_neg h45]
                have hel2 := elF_ok HS.out hel
                have HE := Lib.hid (show elsF L (L.length + 2) [] k0 = elsF L g (acc ++ [(a, a)]) k1 by rw [HT.out.eq, elsF_go hgo hel])
                have HO := Lib.hid (And.intro (owns_ch H2.out.2.2.2 hC3 hpl) (Nat.le_trans H2.out.2.2.1.size hC3.size))
                have HC := Lib.hid (H2.out.2.2.1.trans hC3)
                have HF := Lib.hid hE3
                clear hel hgo h45 hE3 hC3
                go_wp2_with (at_builtin; refine wpList_append_row _ rfl _ _ 29 rfl w.heap.size 43 ii (.agg #[.int .i32 0, .int .i32 0]) 2 8 Try.underlying29 hi hz0 hz1 hz2 rfl (by decide) (.slice ou acc.length cu) acc.length (flatK .i32 acc) rfl ?hown _ 1 [.int .i32 a, .int .i32 a] rfl ?hrow rfl ?hone ?h63 ?hby ?hbase ?_)
                case hown => exact HO.out.1.alloc _
                case hrow => exact rowNew2 _ _ _ _ _ (by simp)
                case hone => simp [Value.oneCell']
                case h63 => unfold maxLen; omega
                case hby => omega
                case hbase => have := HO.out.2; simp <;> omega
                intro v' w9 hown9 hgrow9
                have hb9 : Below w.heap.size w3 w9 := (((Below.refl _ _).alloc HO.out.2 (.cells #[.int .i32 a, .int .i32 a] 43))).grown hgrow9 (by have := HO.out.2; simp; omega) (fun j hj => (HO.out.1.lt j hj).1)
                obtain ⟨o9, c9, rfl⟩ := owns_slice hown9
                have hS9 : SAt w w9 p L (.slice o9 (acc.length + 1) c9) (acc ++ [(a, a)]) := ⟨HC.out.keep hb9, by rw [flatK_append, List.length_append]; exact hown9, i32s_one HT.out.s.z ⟨by omega, by omega⟩ ⟨by omega, by omega⟩, by have := HT.out.le; have := HT.out.e.le; simp; omega⟩
                have HS9 := Lib.hid hS9
                have HB9 := Lib.hid hb9
                clear hgrow9 hown9 hb9 hS9
                go_wp2
                go_roundg g
                case measure => omega
                case rel => exact .inl ⟨acc ++ [(a, a)], k1, o9, c9, by simp, HS9.out, H.out.keep HF.out HB9.out, by have := HT.out.le; simp; omega, HE.out, by have := HT.out.fuel; omega⟩
            · have hel : elF L k = .error j := by unfold elF; simp only [hx]
              have HE := Lib.hid (show elsF L (L.length + 2) [] k0 = .error j by rw [HT.out.eq, elsF_bad hgo hel])
              have H2 := Lib.hid (And.intro hE2 (And.intro (H1.out.2.1.trans hC2) (owns_ch H1.out.2.2 hC2 hpl)))
              clear hel hgo hpost hx hE2 hC2
              go_wp2_with fail
              refine (rtake_bad p kk n L _ _ 45 _ H2.out.1 (by decide)).mono ?_
              rintro e w3 ⟨rfl, hE3, hC3⟩
              have HO := Lib.hid (And.intro (owns_ch H2.out.2.2 hC3 hpl) (Nat.le_trans H2.out.2.1.size hC3.size))
              have HC := Lib.hid (H2.out.2.1.trans hC3)
              have HF := Lib.hid hE3
              clear hE3 hC3
              go_wp2_with (at_builtin; refine wpList_append_row _ rfl _ _ 29 rfl w.heap.size 43 ii (.agg #[.int .i32 0, .int .i32 0]) 2 8 Try.underlying29 hi hz0 hz1 hz2 rfl (by decide) (.slice ou acc.length cu) acc.length (flatK .i32 acc) rfl ?hown _ 1 [.int .i32 0, .int .i32 0] rfl ?hrow rfl ?hone ?h63 ?hby ?hbase ?_)
              case hown => exact HO.out.1.alloc _
              case hrow => exact rowNew2 _ _ _ _ _ (by simp)
              case hone => simp [Value.oneCell']
              case h63 => unfold maxLen; omega
              case hby => omega
              case hbase => have := HO.out.2; simp <;> omega
              intro v' w9 hown9 hgrow9
              have hb9 : Below w.heap.size w3 w9 := (((Below.refl _ _).alloc HO.out.2 (.cells #[.int .i32 0, .int .i32 0] 43))).grown hgrow9 (by have := HO.out.2; simp; omega) (fun j hj => (HO.out.1.lt j hj).1)
              obtain ⟨o9, c9, rfl⟩ := owns_slice hown9
              have hS9 : SAt w w9 p L (.slice o9 (acc.length + 1) c9) (acc ++ [(0, 0)]) := ⟨HC.out.keep hb9, by rw [flatK_append, List.length_append]; exact hown9, i32s_one HT.out.s.z ⟨by omega, by omega⟩ ⟨by omega, by omega⟩, by have := HT.out.le; have := HT.out.e.le; simp; omega⟩
              have HS9 := Lib.hid hS9
              have HB9 := Lib.hid hb9
              clear hgrow9 hown9 hb9 hS9
              go_wp2
              go_roundg g
              case measure => omega
              case rel => exact .inr ⟨acc ++ [(0, 0)], _, _, o9, c9, by simp, HS9.out, H.out.keep HF.out HB9.out, HE.out⟩
      · obtain ⟨wo, rfl⟩ : ∃ wo : World, wo = wr := ⟨_, rfl⟩
        have HT := Lib.hid (BadAt.mk hS0 hE0 heq0)
        have hal := hS0.len
        obtain ⟨⟨c0, c1, c2, c3, c4⟩, f2, f3, f4⟩ := cells5_of hE0.hh
        clear hS0 hE0 heq0
        go_wp2_with fail
        go_quiet (fail)
        have hE1 := HT.out.e.drewN nq
        have hC1 := HT.out.s.ch.trans (Ch.drewN p nq)
        have hO1 := owns_drewN HT.out.s.own nq
        generalize wo.drewN nq = X at hE1 hC1 hO1 ⊢
        have H1 := Lib.hid (And.intro hE1 (And.intro hC1 hO1))
        clear hE1 hC1 hO1 c0 c1 c2 c3 c4 f2 f3 f4
        go_wp2_with fail
        refine (refNot_any acc _ _ (Row.owned H1.out.2.2) HT.out.s.z (by omega)).mono ?_
        rintro e w8 ⟨u8, rfl, hown8, hb8⟩
        have HZ := Lib.hid (And.intro hown8 hb8)
        clear hown8 hb8
        go_wp2
        go_ret
        exact .inr ⟨j, kk, _, by rw [← HK0.out]; exact HT.out.eq, rfl, H1.out.1.moved HZ.out.2, H1.out.2.1.bel' HZ.out.2⟩
  · exact absurd H94.out ht
set_option maxHeartbeats 16000000 in
set_option maxRecDepth 1000000 in
theorem rclass_plain (p k n : Nat) (L : Its) (v : Value) (wh : Int) (w : World) (h : EI w p L k n v 0 wh) (hsc : Sc L) (hL : L.length ≤ 1000) (h94 : ¬ pk L k = 94) :
    Calls Try.prog 27 #[.pointer (some ⟨p, 0, none⟩), .int .i32 (-1)] w (ClassPost false L p n k v wh w) := by
  have H := Lib.hid h
  have HS := Lib.hid hsc
  have hpl := h.lt
  have H94 := Lib.hid h94
  clear h hsc h94
  go_enter Try.func27, Try.ntmps27
  go_wp2_with fail
  refine (rtake_any p k n L v wh 94 _ H.out (by decide)).mono ?_
  rintro e w1 (⟨ht, rfl, hE, hC⟩ | ⟨ht, rfl, hE, hC⟩)
  · exact absurd ht H94.out
  · obtain ⟨k0, hk0⟩ : ∃ k0, k0 = k := ⟨_, rfl⟩
    rw [← hk0] at hE ⊢
    have HK := Lib.hid (And.intro hE hC)
    have HK0 := Lib.hid hk0
    clear hE hC hk0 ht
    obtain ⟨ii, hi, hz0, hz1, hz2⟩ := infoRange
    go_wp2_with fail
    go_loopg [6] (L.length + 2) (fun g u wx => (∃ (acc : List Ru.Pc) (k : Nat) (o : Option Addr) (cp : Nat), u = .slice o acc.length cp ∧ SAt w wx p L u acc ∧ EI wx p L k n v 0 wh ∧ acc.length ≤ k ∧ elsF L (L.length + 2) [] k0 = elsF L g acc k ∧ L.length - k < g) ∨ (∃ (acc : List Ru.Pc) (j kk : Nat) (o : Option Addr) (cp : Nat), u = .slice o acc.length cp ∧ SAt w wx p L u acc ∧ EI wx p L kk n v 3 (plc L n j) ∧ elsF L (L.length + 2) [] k0 = .error j))
    case atStart => exact .inl ⟨[], k0, none, 0, rfl, ⟨HK.out.2, World.ownsRow_nil _ _ _ _, fun q hq => by simp at hq, Nat.zero_le _⟩, HK.out.1, Nat.zero_le _, rfl, by omega⟩
    case round =>
      rcases hrel with ⟨acc, k, ou, cu, rfl, hS0, hE0, hle0, heq0, hfu0⟩ | ⟨acc, j, kk, ou, cu, rfl, hS0, hE0, heq0⟩
      · obtain ⟨wo, rfl⟩ : ∃ wo : World, wo = wr := ⟨_, rfl⟩
        obtain ⟨g, rfl⟩ : ∃ g, gk = g + 1 := ⟨gk - 1, by omega⟩
        have HT := Lib.hid (OkAt.mk hS0 hE0 hle0 heq0 hfu0)
        have hkl := hE0.le
        have hal := hS0.len
        have hkg := hfu0
        obtain ⟨⟨c0, c1, c2, c3, c4⟩, f2, f3, f4⟩ := cells5_of hE0.hh
        have hvs : ∃ ov cv, v = .slice ov L.length cv := by obtain ⟨o, cap, e, _⟩ := hE0.row; exact ⟨o, cap, e⟩
        clear hS0 hE0 heq0 hfu0
        by_cases hgo : acc ≠ [] ∧ L.length ≤ k
        · have hkn : k = L.length := by omega
          have hac : (acc.length == 0) = false := beq_eq_false_iff_ne.2 (by have := List.length_pos_iff.2 hgo.1; omega)
          have hac2 : ((acc.length : Int) == 0) = false := beq_eq_false_iff_ne.2 (by have := List.length_pos_iff.2 hgo.1; omega)
          have hkk : decide ((k : Int) < (L.length : Int)) = false := by simp; omega
          have hkk2 : decide (k < L.length) = false := by simp; omega
          have HE := Lib.hid (show elsF L (L.length + 2) [] k0 = .ok acc by rw [HT.out.eq, elsF_stop hgo.1 hgo.2])
          have HKN := Lib.hid hkn
          clear hgo hkn hle0
          obtain ⟨ov, cv, rfl⟩ := hvs
          go_wp2_with fail
          go_quiet (fail)
          have hE1 := HT.out.e.drewN nq
          have hC1 := HT.out.s.ch.trans (Ch.drewN p nq)
          have hO1 := owns_drewN HT.out.s.own nq
          generalize wo.drewN nq = X at hE1 hC1 hO1 ⊢
          have H1 := Lib.hid (And.intro hE1 (And.intro hC1 hO1))
          clear hE1 hC1 hO1 c0 c1 c2 c3 c4 f2 f3 f4
          go_wp2_with fail
          refine (refNorm_any acc _ _ (Row.owned H1.out.2.2) HT.out.s.z (by omega)).mono ?_
          rintro e w8 ⟨u8, rfl, hown8, hb8⟩
          have HZ := Lib.hid (And.intro hown8 hb8)
          clear hown8 hb8
          go_wp2
          go_ret
          have he8 := H1.out.1
          rw [HKN.out] at he8
          exact .inl ⟨acc, _, by rw [← HK0.out]; exact HE.out, rfl, he8.moved HZ.out.2, owns_base HZ.out.1 H1.out.2.1.size, H1.out.2.1.bel' HZ.out.2⟩
        · have hin : acc.length = 0 ∨ (0 < acc.length ∧ k < L.length) := by
            rcases Nat.eq_zero_or_pos acc.length with h | h
            · exact .inl h
            · refine .inr ⟨h, ?_⟩
              rcases Nat.lt_or_ge k L.length with h2 | h2
              · exact h2
              · exact absurd ⟨List.length_pos_iff.1 h, h2⟩ hgo
          rcases hin with hz | ⟨hz, hkl2⟩
          · have hac : (acc.length == 0) = true := beq_iff_eq.2 hz
            have hac2 : ((acc.length : Int) == 0) = true := beq_iff_eq.2 (by omega)
            obtain ⟨hz9, hz8⟩ : acc.length ≤ 0 ∧ True := ⟨by omega, trivial⟩
            clear hz hle0 hvs
            go_wp2_with fail
            go_quiet (fail)
            have hE1 := HT.out.e.drewN nq
            have hC1 := HT.out.s.ch.trans (Ch.drewN p nq)
            have hO1 := owns_drewN HT.out.s.own nq
            generalize wo.drewN nq = X at hE1 hC1 hO1 ⊢
            have H1 := Lib.hid (And.intro hE1 (And.intro hC1 hO1))
            clear hE1 hC1 hO1 c0 c1 c2 c3 c4 f2 f3 f4
            go_wp2_with fail
            refine (member_any p k n L _ wh _ H1.out.1 HS.out).mono ?_
            intro e w2 hpost
            rcases hpost.cases with ⟨a, k1, hx, rfl, hE2, hC2⟩ | ⟨j, kk, hx, rfl, hE2, hC2⟩
            · have hlo := lt_ok HS.out hx
              have ha9 := hlo.2.2.1
              have ha8 := hlo.2.2.2.1
              have H2 := Lib.hid (And.intro hx (And.intro hE2 (And.intro (H1.out.2.1.trans hC2) (owns_ch H1.out.2.2 hC2 hpl))))
              clear hpost hx hE2 hC2
              go_wp2_with fail
              refine (rtake_any p k1 n L _ wh 45 _ H2.out.2.1 (by decide)).mono ?_
              rintro e w3 (⟨h45, rfl, hE3, hC3⟩ | ⟨h45, rfl, hE3, hC3⟩)
              · have H3 := Lib.hid (And.intro h45 (And.intro hE3 (And.intro (H2.out.2.2.1.trans hC3) (owns_ch H2.out.2.2.2 hC3 hpl))))
                have hk1 := hE3.le
                clear h45 hE3 hC3
                obtain ⟨⟨c0, c1, c2, c3, c4⟩, f2, f3, f4⟩ := cells5_of H3.out.2.1.hh
                go_wp2_with fail
                clear c0 c1 c2 c3 c4 f2 f3 f4
                refine (member_any p (k1 + 1) n L _ wh _ H3.out.2.1 HS.out).mono ?_
                intro e w4 hpost
                rcases hpost.cases with ⟨b, k2, hx, rfl, hE4, hC4⟩ | ⟨j, kk, hx, rfl, hE4, hC4⟩
                · have hlo4 := lt_ok HS.out hx
                  have hb9 := hlo4.2.2.1
                  have hb8 := hlo4.2.2.2.1
                  have H4 := Lib.hid (And.intro hx (And.intro hE4 (And.intro (H3.out.2.2.1.trans hC4) (owns_ch H3.out.2.2.2 hC4 hpl))))
                  obtain ⟨⟨c0, c1, c2, c3, c4⟩, f2, f3, f4⟩ := cells5_of hE4.hh
                  clear hpost hx hE4 hC4
                  by_cases hba : b < a
                  · have dba : decide (b < a) = true := by simpa using hba
                    have hel : elF L k = .error (k1 + 1) := by unfold elF; simp only [H2.out.1, if_pos H3.out.1, H4.out.1, if_pos hba]
                    have HE := Lib.hid (show elsF L (L.length + 2) [] k0 = .error (k1 + 1) by rw [HT.out.eq, elsF_bad hgo hel])
                    clear hel hgo
                    have hE5 := H4.out.2.1.at (k' := k1 + 1) hk1
                    have hC5 := H4.out.2.2.1.trans (Ch.set w4 p 2 (.int .i64 ((k1 + 1 : Nat) : Int)))
                    have hO5 := owns_ch H4.out.2.2.2 (Ch.set w4 p 2 (.int .i64 ((k1 + 1 : Nat) : Int))) hpl
                    obtain ⟨X5, hX5⟩ : ∃ X5, X5 = w4.setCell ⟨p, 2, none⟩ (.int .i64 ((k1 + 1 : Nat) : Int)) := ⟨_, rfl⟩
                    rw [← hX5] at hE5 hC5 hO5
                    have H5 := Lib.hid (And.intro hE5 (And.intro hC5 hO5))
                    have HX5 := Lib.hid hX5
                    clear hX5 hE5 hC5 hO5
                    go_wp2_with fail
                    rw [show w4.setCell ⟨p, 2, none⟩ (.int .i64 ((k1 : Int) + 1)) = X5 from HX5.out.symm]
                    clear c0 c1 c2 c3 c4 f2 f3 f4 HX5
                    refine (rfail_any p (k1 + 1) n L _ wh _ H5.out.1).mono ?_
                    rintro e w6 ⟨rfl, hE6, hC6⟩
                    have HO := Lib.hid (And.intro (owns_ch H5.out.2.2 hC6 hpl) (Nat.le_trans H5.out.2.1.size hC6.size))
                    have HC := Lib.hid (H5.out.2.1.trans hC6)
                    have HF := Lib.hid hE6
                    clear hE6 hC6
                    go_wp2_with (at_builtin; refine wpList_append_row _ rfl _ _ 29 rfl w.heap.size 43 ii (.agg #[.int .i32 0, .int .i32 0]) 2 8 Try.underlying29 hi hz0 hz1 hz2 rfl (by decide) (.slice ou acc.length cu) acc.length (flatK .i32 acc) rfl ?hown _ 1 [.int .i32 a, .int .i32 b] rfl ?hrow rfl ?hone ?h63 ?hby ?hbase ?_)
                    case hown => exact HO.out.1.alloc _
                    case hrow => exact rowNew2 _ _ _ _ _ (by simp)
                    case hone => simp [Value.oneCell']
                    case h63 => unfold maxLen; omega
                    case hby => omega
                    case hbase => have := HO.out.2; simp <;> omega
                    intro v' w9 hown9 hgrow9
                    have hb9 : Below w.heap.size w6 w9 := (((Below.refl _ _).alloc HO.out.2 (.cells #[.int .i32 a, .int .i32 b] 43))).grown hgrow9 (by have := HO.out.2; simp; omega) (fun j hj => (HO.out.1.lt j hj).1)
                    obtain ⟨o9, c9, rfl⟩ := owns_slice hown9
                    have hS9 : SAt w w9 p L (.slice o9 (acc.length + 1) c9) (acc ++ [(a, b)]) := ⟨HC.out.keep hb9, by rw [flatK_append, List.length_append]; exact hown9, i32s_one HT.out.s.z ⟨by omega, by omega⟩ ⟨by omega, by omega⟩, by have := HT.out.le; have := HT.out.e.le; simp; omega⟩
                    have HS9 := Lib.hid hS9
                    have HB9 := Lib.hid hb9
                    clear hgrow9 hown9 hb9 hS9
                    go_wp2
                    go_roundg g
                    case measure => omega
                    case rel => exact .inr ⟨acc ++ [(a, b)], _, _, o9, c9, by simp, HS9.out, H.out.keep HF.out HB9.out, HE.out⟩
                  · have dba : decide (b < a) = false := by simpa using hba
                    have hel : elF L k = .ok ((a, b), k2) := by unfold elF; simp only [H2.out.1, if_pos H3.out.1, H4.out.1, if_neg hba]
                    have hel2 := elF_ok HS.out hel
                    have HE := Lib.hid (show elsF L (L.length + 2) [] k0 = elsF L g (acc ++ [(a, b)]) k2 by rw [HT.out.eq, elsF_go hgo hel])
                    clear hel hgo
                    have HO := Lib.hid (And.intro H4.out.2.2.2 H4.out.2.2.1.size)
                    have HC := Lib.hid H4.out.2.2.1
                    go_wp2_with (at_builtin; refine wpList_append_row _ rfl _ _ 29 rfl w.heap.size 43 ii (.agg #[.int .i32 0, .int .i32 0]) 2 8 Try.underlying29 hi hz0 hz1 hz2 rfl (by decide) (.slice ou acc.length cu) acc.length (flatK .i32 acc) rfl ?hown _ 1 [.int .i32 a, .int .i32 b] rfl ?hrow rfl ?hone ?h63 ?hby ?hbase ?_)
                    case hown => exact HO.out.1.alloc _
                    case hrow => exact rowNew2 _ _ _ _ _ (by simp)
                    case hone => simp [Value.oneCell']
                    case h63 => unfold maxLen; omega
                    case hby => omega
                    case hbase => have := HO.out.2; simp <;> omega
                    intro v' w9 hown9 hgrow9
                    have hb9 : Below w.heap.size w4 w9 := (((Below.refl _ _).alloc HO.out.2 (.cells #[.int .i32 a, .int .i32 b] 43))).grown hgrow9 (by have := HO.out.2; simp; omega) (fun j hj => (HO.out.1.lt j hj).1)
                    obtain ⟨o9, c9, rfl⟩ := owns_slice hown9
                    have hS9 : SAt w w9 p L (.slice o9 (acc.length + 1) c9) (acc ++ [(a, b)]) := ⟨HC.out.keep hb9, by rw [flatK_append, List.length_append]; exact hown9, i32s_one HT.out.s.z ⟨by omega, by omega⟩ ⟨by omega, by omega⟩, by have := HT.out.le; have := HT.out.e.le; simp; omega⟩
                    have HS9 := Lib.hid hS9
                    have HB9 := Lib.hid hb9
                    clear hgrow9 hown9 hb9 hS9
                    go_wp2
                    go_roundg g
                    case measure => omega
                    case rel => exact .inl ⟨acc ++ [(a, b)], k2, o9, c9, by simp, HS9.out, H.out.keep H4.out.2.1 HB9.out, by have := HT.out.le; simp; omega, HE.out, by have := HT.out.fuel; omega⟩
                · have hel : elF L k = .error j := by unfold elF; simp only [H2.out.1, if_pos H3.out.1, hx]
                  have HE := Lib.hid (show elsF L (L.length + 2) [] k0 = .error j by rw [HT.out.eq, elsF_bad hgo hel])
                  have HO := Lib.hid (And.intro (owns_ch H3.out.2.2.2 hC4 hpl) (Nat.le_trans H3.out.2.2.1.size hC4.size))
                  have HC := Lib.hid (H3.out.2.2.1.trans hC4)
                  have HF := Lib.hid hE4
                  obtain ⟨⟨c0, c1, c2, c3, c4⟩, f2, f3, f4⟩ := cells5_of hE4.hh
                  clear hel hgo hpost hx hE4 hC4
                  go_wp2_with (at_builtin; refine wpList_append_row _ rfl _ _ 29 rfl w.heap.size 43 ii (.agg #[.int .i32 0, .int .i32 0]) 2 8 Try.underlying29 hi hz0 hz1 hz2 rfl (by decide) (.slice ou acc.length cu) acc.length (flatK .i32 acc) rfl ?hown _ 1 [.int .i32 a, .int .i32 0] rfl ?hrow rfl ?hone ?h63 ?hby ?hbase ?_)
                  case hown => exact HO.out.1.alloc _
                  case hrow => exact rowNew2 _ _ _ _ _ (by simp)
                  case hone => simp [Value.oneCell']
                  case h63 => unfold maxLen; omega
                  case hby => omega
                  case hbase => have := HO.out.2; simp <;> omega
                  intro v' w9 hown9 hgrow9
                  have hb9 : Below w.heap.size w4 w9 := (((Below.refl _ _).alloc HO.out.2 (.cells #[.int .i32 a, .int .i32 0] 43))).grown hgrow9 (by have := HO.out.2; simp; omega) (fun j hj => (HO.out.1.lt j hj).1)
                  obtain ⟨o9, c9, rfl⟩ := owns_slice hown9
                  have hS9 : SAt w w9 p L (.slice o9 (acc.length + 1) c9) (acc ++ [(a, 0)]) := ⟨HC.out.keep hb9, by rw [flatK_append, List.length_append]; exact hown9, i32s_one HT.out.s.z ⟨by omega, by omega⟩ ⟨by omega, by omega⟩, by have := HT.out.le; have := HT.out.e.le; simp; omega⟩
                  have HS9 := Lib.hid hS9
                  have HB9 := Lib.hid hb9
                  clear hgrow9 hown9 hb9 hS9
                  go_wp2
                  go_roundg g
                  case measure => omega
                  case rel => exact .inr ⟨acc ++ [(a, 0)], _, _, o9, c9, by simp, HS9.out, H.out.keep HF.out HB9.out, HE.out⟩
              · have hel : elF L k = .ok ((a, a), k1) := by unfold elF; simp only [H2.out.1, if_neg h45]
                have hel2 := elF_ok HS.out hel
                have HE := Lib.hid (show elsF L (L.length + 2) [] k0 = elsF L g (acc ++ [(a, a)]) k1 by rw [HT.out.eq, elsF_go hgo hel])
                have HO := Lib.hid (And.intro (owns_ch H2.out.2.2.2 hC3 hpl) (Nat.le_trans H2.out.2.2.1.size hC3.size))
                have HC := Lib.hid (H2.out.2.2.1.trans hC3)
                have HF := Lib.hid hE3
                clear hel hgo h45 hE3 hC3
                go_wp2_with (at_builtin; refine wpList_append_row _ rfl _ _ 29 rfl w.heap.size 43 ii (.agg #[.int .i32 0, .int .i32 0]) 2 8 Try.underlying29 hi hz0 hz1 hz2 rfl (by decide) (.slice ou acc.length cu) acc.length (flatK .i32 acc) rfl ?hown _ 1 [.int .i32 a, .int .i32 a] rfl ?hrow rfl ?hone ?h63 ?hby ?hbase ?_)
                case hown => exact HO.out.1.alloc _
                case hrow => exact rowNew2 _ _ _ _ _ (by simp)
                case hone => simp [Value.oneCell']
                case h63 => unfold maxLen; omega
                case hby => omega
                case hbase => have := HO.out.2; simp <;> omega
                intro v' w9 hown9 hgrow9
                have hb9 : Below w.heap.size w3 w9 := (((Below.refl _ _).alloc HO.out.2 (.cells #[.int .i32 a, .int .i32 a] 43))).grown hgrow9 (by have := HO.out.2; simp; omega) (fun j hj => (HO.out.1.lt j hj).1)
                obtain ⟨o9, c9, rfl⟩ := owns_slice hown9
                have hS9 : SAt w w9 p L (.slice o9 (acc.length + 1) c9) (acc ++ [(a, a)]) := ⟨HC.out.keep hb9, by rw [flatK_append, List.length_append]; exact hown9, i32s_one HT.out.s.z ⟨by omega, by omega⟩ ⟨by omega, by omega⟩, by have := HT.out.le; have := HT.out.e.le; simp; omega⟩
                have HS9 := Lib.hid hS9
                have HB9 := Lib.hid hb9
                clear hgrow9 hown9 hb9 hS9
                go_wp2
                go_roundg g
                case measure => omega
                case rel => exact .inl ⟨acc ++ [(a, a)], k1, o9, c9, by simp, HS9.out, H.out.keep HF.out HB9.out, by have := HT.out.le; simp; omega, HE.out, by have := HT.out.fuel; omega⟩
            · have hel : elF L k = .error j := by unfold elF; simp only [hx]
              have HE := Lib.hid (show elsF L (L.length + 2) [] k0 = .error j by rw [HT.out.eq, elsF_bad hgo hel])
              have H2 := Lib.hid (And.intro hE2 (And.intro (H1.out.2.1.trans hC2) (owns_ch H1.out.2.2 hC2 hpl)))
              clear hel hgo hpost hx hE2 hC2
              go_wp2_with fail
              refine (rtake_bad p kk n L _ _ 45 _ H2.out.1 (by decide)).mono ?_
              rintro e w3 ⟨rfl, hE3, hC3⟩
              have HO := Lib.hid (And.intro (owns_ch H2.out.2.2 hC3 hpl) (Nat.le_trans H2.out.2.1.size hC3.size))
              have HC := Lib.hid (H2.out.2.1.trans hC3)
              have HF := Lib.hid hE3
              clear hE3 hC3
              go_wp2_with (at_builtin; refine wpList_append_row _ rfl _ _ 29 rfl w.heap.size 43 ii (.agg #[.int .i32 0, .int .i32 0]) 2 8 Try.underlying29 hi hz0 hz1 hz2 rfl (by decide) (.slice ou acc.length cu) acc.length (flatK .i32 acc) rfl ?hown _ 1 [.int .i32 0, .int .i32 0] rfl ?hrow rfl ?hone ?h63 ?hby ?hbase ?_)
              case hown => exact HO.out.1.alloc _
              case hrow => exact rowNew2 _ _ _ _ _ (by simp)
              case hone => simp [Value.oneCell']
              case h63 => unfold maxLen; omega
              case hby => omega
              case hbase => have := HO.out.2; simp <;> omega
              intro v' w9 hown9 hgrow9
              have hb9 : Below w.heap.size w3 w9 := (((Below.refl _ _).alloc HO.out.2 (.cells #[.int .i32 0, .int .i32 0] 43))).grown hgrow9 (by have := HO.out.2; simp; omega) (fun j hj => (HO.out.1.lt j hj).1)
              obtain ⟨o9, c9, rfl⟩ := owns_slice hown9
              have hS9 : SAt w w9 p L (.slice o9 (acc.length + 1) c9) (acc ++ [(0, 0)]) := ⟨HC.out.keep hb9, by rw [flatK_append, List.length_append]; exact hown9, i32s_one HT.out.s.z ⟨by omega, by omega⟩ ⟨by omega, by omega⟩, by have := HT.out.le; have := HT.out.e.le; simp; omega⟩
              have HS9 := Lib.hid hS9
              have HB9 := Lib.hid hb9
              clear hgrow9 hown9 hb9 hS9
              go_wp2
              go_roundg g
              case measure => omega
              case rel => exact .inr ⟨acc ++ [(0, 0)], _, _, o9, c9, by simp, HS9.out, H.out.keep HF.out HB9.out, HE.out⟩
          · have hac : (acc.length == 0) = false := beq_eq_false_iff_ne.2 (by omega)
            have hac2 : ((acc.length : Int) == 0) = false := beq_eq_false_iff_ne.2 (by omega)
            have hkk : decide ((k : Int) < (L.length : Int)) = true := by simp; omega
            have hkk2 : decide (k < L.length) = true := by simp; omega
            clear hle0
            obtain ⟨ov, cv, rfl⟩ := hvs
            go_wp2_with fail
            go_quiet (fail)
            have hE1 := HT.out.e.drewN nq
            have hC1 := HT.out.s.ch.trans (Ch.drewN p nq)
            have hO1 := owns_drewN HT.out.s.own nq
            generalize wo.drewN nq = X at hE1 hC1 hO1 ⊢
            have H1 := Lib.hid (And.intro hE1 (And.intro hC1 hO1))
            clear hE1 hC1 hO1 c0 c1 c2 c3 c4 f2 f3 f4
            go_wp2_with fail
            refine (member_any p k n L _ wh _ H1.out.1 HS.out).mono ?_
            intro e w2 hpost
            rcases hpost.cases with ⟨a, k1, hx, rfl, hE2, hC2⟩ | ⟨j, kk, hx, rfl, hE2, hC2⟩
            · have hlo := lt_ok HS.out hx
              have ha9 := hlo.2.2.1
              have ha8 := hlo.2.2.2.1
              have H2 := Lib.hid (And.intro hx (And.intro hE2 (And.intro (H1.out.2.1.trans hC2) (owns_ch H1.out.2.2 hC2 hpl))))
              clear hpost hx hE2 hC2
              go_wp2_with fail
              refine (rtake_any p k1 n L _ wh 45 _ H2.out.2.1 (by decide)).mono ?_
              rintro e w3 (⟨h45, rfl, hE3, hC3⟩ | ⟨h45, rfl, hE3, hC3⟩)
              · have H3 := Lib.hid (And.intro h45 (And.intro hE3 (And.intro (H2.out.2.2.1.trans hC3) (owns_ch H2.out.2.2.2 hC3 hpl))))
                have hk1 := hE3.le
                clear h45 hE3 hC3
                obtain ⟨⟨c0, c1, c2, c3, c4⟩, f2, f3, f4⟩ := cells5_of H3.out.2.1.hh
                go_wp2_with fail
                clear c0 c1 c2 c3 c4 f2 f3 f4
                refine (member_any p (k1 + 1) n L _ wh _ H3.out.2.1 HS.out).mono ?_
                intro e w4 hpost
                rcases hpost.cases with ⟨b, k2, hx, rfl, hE4, hC4⟩ | ⟨j, kk, hx, rfl, hE4, hC4⟩
                · have hlo4 := lt_ok HS.out hx
                  have hb9 := hlo4.2.2.1
                  have hb8 := hlo4.2.2.2.1
                  have H4 := Lib.hid (And.intro hx (And.intro hE4 (And.intro (H3.out.2.2.1.trans hC4) (owns_ch H3.out.2.2.2 hC4 hpl))))
                  obtain ⟨⟨c0, c1, c2, c3, c4⟩, f2, f3, f4⟩ := cells5_of hE4.hh
                  clear hpost hx hE4 hC4
                  by_cases hba : b < a
                  · have dba : decide (b < a) = true := by simpa using hba
                    have hel : elF L k = .error (k1 + 1) := by unfold elF; simp only [H2.out.1, if_pos H3.out.1, H4.out.1, if_pos hba]
                    have HE := Lib.hid (show elsF L (L.length + 2) [] k0 = .error (k1 + 1) by rw [HT.out.eq, elsF_bad hgo hel])
                    clear hel hgo
                    have hE5 := H4.out.2.1.at (k' := k1 + 1) hk1
                    have hC5 := H4.out.2.2.1.trans (Ch.set w4 p 2 (.int .i64 ((k1 + 1 : Nat) : Int)))
                    have hO5 := owns_ch H4.out.2.2.2 (Ch.set w4 p 2 (.int .i64 ((k1 + 1 : Nat) : Int))) hpl
                    obtain ⟨X5, hX5⟩ : ∃ X5, X5 = w4.setCell ⟨p, 2, none⟩ (.int .i64 ((k1 + 1 : Nat) : Int)) := ⟨_, rfl⟩
                    rw [← hX5] at hE5 hC5 hO5
                    have H5 := Lib.hid (And.intro hE5 (And.intro hC5 hO5))
                    have HX5 := Lib.hid hX5
                    clear hX5 hE5 hC5 hO5
                    go_wp2_with fail
                    rw [show w4.setCell ⟨p, 2, none⟩ (.int .i64 ((k1 : Int) + 1)) = X5 from HX5.out.symm]
                    clear c0 c1 c2 c3 c4 f2 f3 f4 HX5
                    refine (rfail_any p (k1 + 1) n L _ wh _ H5.out.1).mono ?_
                    rintro e w6 ⟨rfl, hE6, hC6⟩
                    have HO := Lib.hid (And.intro (owns_ch H5.out.2.2 hC6 hpl) (Nat.le_trans H5.out.2.1.size hC6.size))
                    have HC := Lib.hid (H5.out.2.1.trans hC6)
                    have HF := Lib.hid hE6
                    clear hE6 hC6
                    go_wp2_with (at_builtin; refine wpList_append_row _ rfl _ _ 29 rfl w.heap.size 43 ii (.agg #[.int .i32 0, .int .i32 0]) 2 8 Try.underlying29 hi hz0 hz1 hz2 rfl (by decide) (.slice ou acc.length cu) acc.length (flatK .i32 acc) rfl ?hown _ 1 [.int .i32 a, .int .i32 b] rfl ?hrow rfl ?hone ?h63 ?hby ?hbase ?_)
                    case hown => exact HO.out.1.alloc _
                    case hrow => exact rowNew2 _ _ _ _ _ (by simp)
                    case hone => simp [Value.oneCell']
                    case h63 => unfold maxLen; omega
                    case hby => omega
                    case hbase => have := HO.out.2; simp <;> omega
                    intro v' w9 hown9 hgrow9
                    have hb9 : Below w.heap.size w6 w9 := (((Below.refl _ _).alloc HO.out.2 (.cells #[.int .i32 a, .int .i32 b] 43))).grown hgrow9 (by have := HO.out.2; simp; omega) (fun j hj => (HO.out.1.lt j hj).1)
                    obtain ⟨o9, c9, rfl⟩ := owns_slice hown9
                    have hS9 : SAt w w9 p L (.slice o9 (acc.length + 1) c9) (acc ++ [(a, b)]) := ⟨HC.out.keep hb9, by rw [flatK_append, List.length_append]; exact hown9, i32s_one HT.out.s.z ⟨by omega, by omega⟩ ⟨by omega, by omega⟩, by have := HT.out.le; have := HT.out.e.le; simp; omega⟩
                    have HS9 := Lib.hid hS9
                    have HB9 := Lib.hid hb9
                    clear hgrow9 hown9 hb9 hS9
                    go_wp2
                    go_roundg g
                    case measure => omega
                    case rel => exact .inr ⟨acc ++ [(a, b)], _, _, o9, c9, by simp, HS9.out, H.out.keep HF.out HB9.out, HE.out⟩
                  · have dba : decide (b < a) = false := by simpa using hba
                    have hel : elF L k = .ok ((a, b), k2) := by unfold elF; simp only [H2.out.1, if_pos H3.out.1, H4.out.1, if_neg hba]
                    have hel2 := elF_ok HS.out hel
                    have HE := Lib.hid (show elsF L (L.length + 2) [] k0 = elsF L g (acc ++ [(a, b)]) k2 by rw [HT.out.eq, elsF_go hgo hel])
                    clear hel hgo
                    have HO := Lib.hid (And.intro H4.out.2.2.2 H4.out.2.2.1.size)
                    have HC := Lib.hid H4.out.2.2.1
                    go_wp2_with (at_builtin; refine wpList_append_row _ rfl _ _ 29 rfl w.heap.size 43 ii (.agg #[.int .i32 0, .int .i32 0]) 2 8 Try.underlying29 hi hz0 hz1 hz2 rfl (by decide) (.slice ou acc.length cu) acc.length (flatK .i32 acc) rfl ?hown _ 1 [.int .i32 a, .int .i32 b] rfl ?hrow rfl ?hone ?h63 ?hby ?hbase ?_)
                    case hown => exact HO.out.1.alloc _
                    case hrow => exact rowNew2 _ _ _ _ _ (by simp)
                    case hone => simp [Value.oneCell']
                    case h63 => unfold maxLen; omega
                    case hby => omega
                    case hbase => have := HO.out.2; simp <;> omega
                    intro v' w9 hown9 hgrow9
                    have hb9 : Below w.heap.size w4 w9 := (((Below.refl _ _).alloc HO.out.2 (.cells #[.int .i32 a, .int .i32 b] 43))).grown hgrow9 (by have := HO.out.2; simp; omega) (fun j hj => (HO.out.1.lt j hj).1)
                    obtain ⟨o9, c9, rfl⟩ := owns_slice hown9
                    have hS9 : SAt w w9 p L (.slice o9 (acc.length + 1) c9) (acc ++ [(a, b)]) := ⟨HC.out.keep hb9, by rw [flatK_append, List.length_append]; exact hown9, i32s_one HT.out.s.z ⟨by omega, by omega⟩ ⟨by omega, by omega⟩, by have := HT.out.le; have := HT.out.e.le; simp; omega⟩
                    have HS9 := Lib.hid hS9
                    have HB9 := Lib.hid hb9
                    clear hgrow9 hown9 hb9 hS9
                    go_wp2
                    go_roundg g
                    case measure => omega
                    case rel => exact .inl ⟨acc ++ [(a, b)], k2, o9, c9, by simp, HS9.out, H.out.keep H4.out.2.1 HB9.out, by have := HT.out.le; simp; omega, HE.out, by have := HT.out.fuel; omega⟩
                · have hel : elF L k = .error j := by unfold elF; simp only [H2.out.1, if_pos H3.out.1, hx]
                  have HE := Lib.hid (show elsF L (L.length + 2) [] k0 = .error j by rw [HT.out.eq, elsF_bad hgo hel])
                  have HO := Lib.hid (And.intro (owns_ch H3.out.2.2.2 hC4 hpl) (Nat.le_trans H3.out.2.2.1.size hC4.size))
                  have HC := Lib.hid (H3.out.2.2.1.trans hC4)
                  have HF := Lib.hid hE4
                  obtain ⟨⟨c0, c1, c2, c3, c4⟩, f2, f3, f4⟩ := cells5_of hE4.hh
                  clear hel hgo hpost hx hE4 hC4
                  go_wp2_with (at_builtin; refine wpList_append_row _ rfl _ _ 29 rfl w.heap.size 43 ii (.agg #[.int .i32 0, .int .i32 0]) 2 8 Try.underlying29 hi hz0 hz1 hz2 rfl (by decide) (.slice ou acc.length cu) acc.length (flatK .i32 acc) rfl ?hown _ 1 [.int .i32 a, .int .i32 0] rfl ?hrow rfl ?hone ?h63 ?hby ?hbase ?_)
                  case hown => exact HO.out.1.alloc _
                  case hrow => exact rowNew2 _ _ _ _ _ (by simp)
                  case hone => simp [Value.oneCell']
                  case h63 => unfold maxLen; omega
                  case hby => omega
                  case hbase => have := HO.out.2; simp <;> omega
                  intro v' w9 hown9 hgrow9
                  have hb9 : Below w.heap.size w4 w9 := (((Below.refl _ _).alloc HO.out.2 (.cells #[.int .i32 a, .int .i32 0] 43))).grown hgrow9 (by have := HO.out.2; simp; omega) (fun j hj => (HO.out.1.lt j hj).1)
                  obtain ⟨o9, c9, rfl⟩ := owns_slice hown9
                  have hS9 : SAt w w9 p L (.slice o9 (acc.length + 1) c9) (acc ++ [(a, 0)]) := ⟨HC.out.keep hb9, by rw [flatK_append, List.length_append]; exact hown9, i32s_one HT.out.s.z ⟨by omega, by omega⟩ ⟨by omega, by omega⟩, by have := HT.out.le; have := HT.out.e.le; simp; omega⟩
                  have HS9 := Lib.hid hS9
                  have HB9 := Lib.hid hb9
                  clear hgrow9 hown9 hb9 hS9
                  go_wp2
                  go_roundg g
                  case measure => omega
                  case rel => exact .inr ⟨acc ++ [(a, 0)], _, _, o9, c9, by simp, HS9.out, H.out.keep HF.out HB9.out, HE.out⟩
              · have hel : elF L k = .ok ((a, a), k1) := by unfold elF; simp only [H2.out.1, if_neg h45]
                have hel2 := elF_ok HS.out hel
                have HE := Lib.hid (show elsF L (L.length + 2) [] k0 = elsF L g (acc ++ [(a, a)]) k1 by rw [HT.out.eq, elsF_go hgo hel])
                have HO := Lib.hid (And.intro (owns_ch H2.out.2.2.2 hC3 hpl) (Nat.le_trans H2.out.2.2.1.size hC3.size))
                have HC := Lib.hid (H2.out.2.2.1.trans hC3)
                have HF := Lib.hid hE3
                clear hel hgo h45 hE3 hC3
                go_wp2_with (at_builtin; refine wpList_append_row _ rfl _ _ 29 rfl w.heap.size 43 ii (.agg #[.int .i32 0, .int .i32 0]) 2 8 Try.underlying29 hi hz0 hz1 hz2 rfl (by decide) (.slice ou acc.length cu) acc.length (flatK .i32 acc) rfl ?hown _ 1 [.int .i32 a, .int .i32 a] rfl ?hrow rfl ?hone ?h63 ?hby ?hbase ?_)
                case hown => exact HO.out.1.alloc _
                case hrow => exact rowNew2 _ _ _ _ _ (by simp)
                case hone => simp [Value.oneCell']
                case h63 => unfold maxLen; omega
                case hby => omega
                case hbase => have := HO.out.2; simp <;> omega
                intro v' w9 hown9 hgrow9
                have hb9 : Below w.heap.size w3 w9 := (((Below.refl _ _).alloc HO.out.2 (.cells #[.int .i32 a, .int .i32 a] 43))).grown hgrow9 (by have := HO.out.2; simp; omega) (fun j hj => (HO.out.1.lt j hj).1)
                obtain ⟨o9, c9, rfl⟩ := owns_slice hown9
                have hS9 : SAt w w9 p L (.slice o9 (acc.length + 1) c9) (acc ++ [(a, a)]) := ⟨HC.out.keep hb9, by rw [flatK_append, List.length_append]; exact hown9, i32s_one HT.out.s.z ⟨by omega, by omega⟩ ⟨by omega, by omega⟩, by have := HT.out.le; have := HT.out.e.le; simp; omega⟩
                have HS9 := Lib.hid hS9
                have HB9 := Lib.hid hb9
                clear hgrow9 hown9 hb9 hS9
                go_wp2
                go_roundg g
                case measure => omega
                case rel => exact .inl ⟨acc ++ [(a, a)], k1, o9, c9, by simp, HS9.out, H.out.keep HF.out HB9.out, by have := HT.out.le; simp; omega, HE.out, by have := HT.out.fuel; omega⟩
            · have hel : elF L k = .error j := by unfold elF; simp only [hx]
              have HE := Lib.hid (show elsF L (L.length + 2) [] k0 = .error j by rw [HT.out.eq, elsF_bad hgo hel])
              have H2 := Lib.hid (And.intro hE2 (And.intro (H1.out.2.1.trans hC2) (owns_ch H1.out.2.2 hC2 hpl)))
              clear hel hgo hpost hx hE2 hC2
              go_wp2_with fail
              refine (rtake_bad p kk n L _ _ 45 _ H2.out.1 (by decide)).mono ?_
              rintro e w3 ⟨rfl, hE3, hC3⟩
              have HO := Lib.hid (And.intro (owns_ch H2.out.2.2 hC3 hpl) (Nat.le_trans H2.out.2.1.size hC3.size))
              have HC := Lib.hid (H2.out.2.1.trans hC3)
              have HF := Lib.hid hE3
              clear hE3 hC3
              go_wp2_with (at_builtin; refine wpList_append_row _ rfl _ _ 29 rfl w.heap.size 43 ii (.agg #[.int .i32 0, .int .i32 0]) 2 8 Try.underlying29 hi hz0 hz1 hz2 rfl (by decide) (.slice ou acc.length cu) acc.length (flatK .i32 acc) rfl ?hown _ 1 [.int .i32 0, .int .i32 0] rfl ?hrow rfl ?hone ?h63 ?hby ?hbase ?_)
              case hown => exact HO.out.1.alloc _
              case hrow => exact rowNew2 _ _ _ _ _ (by simp)
              case hone => simp [Value.oneCell']
              case h63 => unfold maxLen; omega
              case hby => omega
              case hbase => have := HO.out.2; simp <;> omega
              intro v' w9 hown9 hgrow9
              have hb9 : Below w.heap.size w3 w9 := (((Below.refl _ _).alloc HO.out.2 (.cells #[.int .i32 0, .int .i32 0] 43))).grown hgrow9 (by have := HO.out.2; simp; omega) (fun j hj => (HO.out.1.lt j hj).1)
              obtain ⟨o9, c9, rfl⟩ := owns_slice hown9
              have hS9 : SAt w w9 p L (.slice o9 (acc.length + 1) c9) (acc ++ [(0, 0)]) := ⟨HC.out.keep hb9, by rw [flatK_append, List.length_append]; exact hown9, i32s_one HT.out.s.z ⟨by omega, by omega⟩ ⟨by omega, by omega⟩, by have := HT.out.le; have := HT.out.e.le; simp; omega⟩
              have HS9 := Lib.hid hS9
              have HB9 := Lib.hid hb9
              clear hgrow9 hown9 hb9 hS9
              go_wp2
              go_roundg g
              case measure => omega
              case rel => exact .inr ⟨acc ++ [(0, 0)], _, _, o9, c9, by simp, HS9.out, H.out.keep HF.out HB9.out, HE.out⟩
      · obtain ⟨wo, rfl⟩ : ∃ wo : World, wo = wr := ⟨_, rfl⟩
        have HT := Lib.hid (BadAt.mk hS0 hE0 heq0)
        have hal := hS0.len
        obtain ⟨⟨c0, c1, c2, c3, c4⟩, f2, f3, f4⟩ := cells5_of hE0.hh
        clear hS0 hE0 heq0
        go_wp2_with fail
        go_quiet (fail)
        have hE1 := HT.out.e.drewN nq
        have hC1 := HT.out.s.ch.trans (Ch.drewN p nq)
        have hO1 := owns_drewN HT.out.s.own nq
        generalize wo.drewN nq = X at hE1 hC1 hO1 ⊢
        have H1 := Lib.hid (And.intro hE1 (And.intro hC1 hO1))
        clear hE1 hC1 hO1 c0 c1 c2 c3 c4 f2 f3 f4
        go_wp2_with fail
        refine (refNorm_any acc _ _ (Row.owned H1.out.2.2) HT.out.s.z (by omega)).mono ?_
        rintro e w8 ⟨u8, rfl, hown8, hb8⟩
        have HZ := Lib.hid (And.intro hown8 hb8)
        clear hown8 hb8
        go_wp2
        go_ret
        exact .inr ⟨j, kk, _, by rw [← HK0.out]; exact HT.out.eq, rfl, H1.out.1.moved HZ.out.2, H1.out.2.1.bel' HZ.out.2⟩
end Go.Proofs.Ytkngppkchaadhaa
