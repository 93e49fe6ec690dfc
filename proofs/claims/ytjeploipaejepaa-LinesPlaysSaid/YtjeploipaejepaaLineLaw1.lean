/- The walk of LinesFinds. -/
import Derived.Test.YtjeploipaejepaaLineTold
set_option linter.unusedVariables false
set_option linter.unusedSimpArgs false
namespace Go.Proofs.Ytjeploipaejepaa
open Go.RowKit

theorem u64_mod (a : Int) (m : Nat) (hm : 0 < m) (hm2 : m ≤ 1048576) : ∃ i : Nat, i < m ∧ (IntKind.u64.wrap a).tmod (m : Int) = (i : Int) := by
  have h0 : 0 ≤ IntKind.u64.wrap a := by unfold IntKind.wrap; simp [IntKind.bits, IntKind.signed]; omega
  have h1 := Int.tmod_nonneg (m : Int) h0
  have h2 := Int.tmod_lt_of_pos (IntKind.u64.wrap a) (show (0 : Int) < (m : Int) by omega)
  exact ⟨((IntKind.u64.wrap a).tmod (m : Int)).toNat, by omega, by omega⟩

/-- behind a 10 a line begins -/
theorem sts_behind (bs : List Int) (i d k : Nat) (hi : i < (sts bs).length) (hd : (sts bs).getD i 0 = (d : Int)) (hk : d ≤ k) (hkl : k < bs.length) (h : bs.getD k 0 = 10) :
    i + 1 < (sts bs).length ∧ (sts bs).getD (i + 1) 0 ≤ (k : Int) + 1 := by
  have hm : ((k + 1 : Nat) : Int) ∈ sts bs := (sts_mem bs _).2 (.inr ⟨k, hkl, h, by simp⟩)
  obtain ⟨j, hj, hje⟩ := List.getElem_of_mem hm
  have hje2 : (sts bs).getD j 0 = ((k + 1 : Nat) : Int) := by simp [List.getD, hj, hje]
  have hij : i < j := by
    rcases Nat.lt_or_ge i j with h | h
    · exact h
    · rcases Nat.eq_or_lt_of_le h with e | e
      · subst e; rw [hd] at hje2; omega
      · have := sts_mono bs j i e hi; rw [hd, hje2] at this; omega
  refine ⟨by omega, ?_⟩
  rcases Nat.eq_or_lt_of_le (show i + 1 ≤ j from hij) with e | e
  · rw [e, hje2]; omega
  · have := sts_mono bs (i + 1) j e hj; rw [hje2] at this; omega

/-- within a line's text stands no 10 -/
theorem ends_clean {bs : List Int} {i : Nat} {x y : Int} (h : EndsOf bs i x y) (hi : i < (sts bs).length) :
    ∃ d t : Nat, x = (d : Int) ∧ y = (t : Int) ∧ d ≤ t ∧ t ≤ bs.length ∧ (sts bs).getD i 0 = (d : Int) ∧ ∀ k, d ≤ k → k < t → bs.getD k 0 ≠ 10 := by
  rcases h with ⟨h1, _⟩ | ⟨i', d, h1, h2, h3, h4, h5⟩
  · omega
  obtain rfl : i = i' := by omega
  obtain ⟨d2, e1, e2⟩ := sts_pos bs i h2
  have hdl : d ≤ bs.length := by omega
  rcases h5 with ⟨h6, rfl⟩ | ⟨c, h6, h7, h8⟩
  · refine ⟨d, bs.length, h4, rfl, hdl, Nat.le_refl _, h3, fun k hk hkl he => ?_⟩
    have := (sts_behind bs i d k h2 h3 hk hkl he).1
    omega
  · have hcl : d + c + 1 ≤ bs.length := by
      obtain ⟨d3, e3, e4⟩ := sts_pos bs (i + 1) h6
      omega
    have no : ∀ k, d ≤ k → k < d + c → bs.getD k 0 ≠ 10 := fun k hk hkl he => by
      have := (sts_behind bs i d k h2 h3 hk (by omega) he).2
      omega
    rcases h8 with ⟨h9, h10, h11⟩ | ⟨h9, h11⟩
    · exact ⟨d, d + c - 1, h4, h11, by omega, by omega, h3, fun k hk hkl => no k hk (by omega)⟩
    · exact ⟨d, d + c, h4, h11, by omega, by omega, h3, no⟩

set_option maxHeartbeats 1000000 in
set_option maxRecDepth 1000000 in
theorem linesFinds_walk (bs : List Int) (v : Value) (a : Int) (w : World) (hr : Row w v bs.length (bs.map (Value.int .u8))) (hu : ∀ x ∈ bs, 0 ≤ x ∧ x < 256)
    (ha : (Lit.int .i64 a).wf = true) :
    Calls Try.prog 5 #[v, .int .i64 a] w fun e w' => e = .returned (.bool true) ∧ Below w.heap.size w w' := by
  have hr0 := hr
  have hmax := hr.le
  obtain ⟨o, cap, rfl, hcap, _, hrow⟩ := hr
  have Hr := Lib.hid hrow
  clear hrow
  by_cases hlen : 300 < bs.length
  · go_enter Try.func5, Try.ntmps5
    go_wp2_with (go_at_call 13; refine (told_any _).mono ?_; rintro e w1 ⟨rfl, hb1⟩)
    go_ret
    exact ⟨rfl, by repeat (first | exact Below.refl _ _ | assumption | (refine Below.drew ?_) | (refine below_drewN ?_ _) | (refine bel_new ?_ _) | (refine bel_then ?_ (by assumption)))⟩
  obtain ⟨p, hp, ep'⟩ := u64_mod a (1 + bs.length) (by omega) (by omega)
  have ep1 : (IntKind.u64.wrap a).tmod (1 + (bs.length : Int)) = (p : Int) := by rw [← ep']; congr 1
  have ep2 : (IntKind.u64.wrap a).tmod ((bs.length : Int) + 1) = (p : Int) := by rw [← ep1, Int.add_comm]
  clear ep'
  go_enter Try.func5, Try.ntmps5
  go_wp2_with fail
  refine (starts_any bs _ _ (by omega) hr0 hu).mono ?_
  rintro e w1 ⟨u, rfl, hown1, hb1⟩
  have hsl : 0 < (sts bs).length := by simp [sts]
  obtain ⟨g, cg, rfl⟩ := ownsRow_form' hown1 hsl
  have hsle := sts_le bs
  go_wp2_with fail
  refine (find_any (sts bs) p _ _ (by omega) (Row.owned hown1) (by simp [Lit.wf, IntKind.min, IntKind.max, IntKind.signed, IntKind.bits]; omega) (fun z hz => by
    obtain ⟨i, hi, rfl⟩ := List.getElem_of_mem hz
    obtain ⟨d, hd, hd2⟩ := sts_pos bs i hi
    have : (sts bs)[i] = (d : Int) := by rw [← hd]; simp [List.getD, hi]
    rw [this]; simp [Lit.wf, IntKind.min, IntKind.max, IntKind.signed, IntKind.bits]; omega)).mono ?_
  rintro e w2 ⟨x, y, rfl, hf, hb2⟩
  rcases hf with ⟨h1, _⟩ | ⟨_, _, c, rfl, hc, hck, rfl⟩
  · exact absurd ⟨by omega, sts_asc bs⟩ h1
  obtain ⟨sc, hsc, hsc2⟩ := sts_pos bs c hc
  have hscp : sc ≤ p := by have := (hck c hc).2 (by omega); omega
  have hown2 := owns_below hown1 hb2
  have hB2 : Below w.heap.size w w2 := bel_then hb1 hb2
  have hcc : w2.cell? ⟨g, c, none⟩ = some (.int .i64 sc) := by
    rw [← hsc]; exact cell_add (hown2.cells rfl) c _ (getElem?_ints hc)
  rw [hsc]
  have hru : Row w2 (.slice o bs.length cap) bs.length (bs.map (Value.int .u8)) := hr0.below hB2
  have HF := Lib.hid (And.intro hck (And.intro hsc hown2))
  have HU := Lib.hid (And.intro hu hr0)
  have main : (c + 1 < (sts bs).length → ∃ sn : Nat, w2.cell? ⟨g, c + 1, none⟩ = some (.int .i64 sn) ∧ p < sn) := by
    intro hn
    obtain ⟨sn, hsn, hsn2⟩ := sts_pos bs (c + 1) hn
    refine ⟨sn, by rw [← hsn]; exact cell_add (hown2.cells rfl) (c + 1) _ (getElem?_ints hn), ?_⟩
    rcases Nat.lt_or_ge p sn with h | h
    · exact h
    · have := (hck (c + 1) hn).1 (by omega); omega
  have hends := fun (w : World) hr => ends_any bs c (.slice o bs.length cap) w (by omega) hr hu (by omega)
  clear hck hsc hown2 hown1 hb1 hb2 hr0 hu
  have hcase : (∃ sn : Nat, c + 1 < (sts bs).length ∧ w2.cell? ⟨g, c + 1, none⟩ = some (.int .i64 sn) ∧ p < sn) ∨ ¬ c + 1 < (sts bs).length := by
    by_cases hn : c + 1 < (sts bs).length
    · obtain ⟨sn, h1, h2⟩ := main hn; exact .inl ⟨sn, hn, h1, h2⟩
    · exact .inr hn
  have hg2 := (HF.out.2.2.lt g rfl).2
  clear main
  rcases hcase with ⟨sn, hn, hcn, hsn⟩ | hn
  all_goals (
    go_wp2_with fail
    refine (hends _ hru).mono ?_
    rintro e w3 ⟨x, y, rfl, he, hb3⟩
    obtain ⟨d, t, rfl, rfl, hdt, htl, hd, hclean⟩ := ends_clean he hc
    obtain rfl : d = sc := by have := HF.out.2.1; omega
    have hB3 : Below w.heap.size w w3 := bel_then hB2 hb3
    have hcc3 : w3.cell? ⟨g, c, none⟩ = some (.int .i64 d) := by rw [hb3.cell hg2]; exact hcc
    have hg3 : g < w3.heap.size := Nat.lt_of_lt_of_le hg2 hb3.size
    have hru3 := hru.below hb3
    obtain ⟨_, _, e3, _, _, hrow⟩ := hru3
    simp only [Value.slice.injEq, true_and] at e3
    obtain ⟨rfl, rfl⟩ := e3
    have HN := Lib.hid hclean
    clear hclean he hd hends hru hb3 hcc
    go_wp2_with fail
    go_loopw [11] (fun i wr => ∃ k : Nat, i = .int .i64 k ∧ d ≤ k ∧ k ≤ t ∧ wr = w3) (fun i _ => t - (intOf i).toNat)
    case atStart => exact ⟨d, rfl, Nat.le_refl _, hdt, rfl⟩
    case round =>
      obtain ⟨k, rfl, hk1, hk2, rfl⟩ := hrel
      by_cases hkt : k < t
      · rcases hrow with ⟨h0, _⟩ | ⟨b, off, rfl, hlt, hcell⟩
        · omega
        obtain ⟨z, hz⟩ : ∃ z, z = bs.getD k 0 := ⟨_, rfl⟩
        have hcz : wr.cell? ⟨b, off + k, none⟩ = some (.int .u8 z) := by rw [hz]; exact hcell k _ (getElem?_ints (by omega))
        have hz10 : (z == 10) = false := by rw [hz]; simpa using HN.out k hk1 hkt
        clear hcell hz
        go_wp2
        go_roundw
        case rel => exact ⟨k + 1, by go_num, by omega, by omega, trivial⟩
        case measure => simp [intOf]; omega
      · have hkt2 : k = t := by omega
        subst hkt2
        clear hrow
        go_wp2_with fail
        refine (told_any _).mono ?_
        rintro e w4 ⟨rfl, hb4⟩
        have hcc4 := hcc3
        rw [← hb4.cell hg3] at hcc4
        clear hcc3
        go_wp2
        go_ret
        exact ⟨rfl, bel_then hB3 hb4⟩)
end Go.Proofs.Ytjeploipaejepaa
