/- The reference's Pairs. -/
import Derived.Test.YtjeploipaejepaaForestWell
import Derived.Test.YtjeploipaejepaaRowCutS
set_option linter.unusedVariables false
set_option linter.unusedSimpArgs false
namespace Go.Proofs.Ytjeploipaejepaa
open Go.RowKit Fo

theorem stk_head (ks : List Int) (i m : Nat) (hm : m ∈ stk ks i) (h : ∀ x ∈ stk ks i, x ≤ m) : ∃ r, stk ks i = m :: r := by
  have hs := stk_sorted ks i
  cases e : stk ks i with
  | nil => rw [e] at hm; cases hm
  | cons c r =>
    rw [e] at hs hm h
    rcases List.mem_cons.1 hm with rfl | hr
    · exact ⟨r, rfl⟩
    · have := (List.pairwise_cons.1 hs).1 m hr
      have := h c (by simp)
      omega
theorem stk_none (ks : List Int) (i : Nat) (h : ∀ m, m < i → ¬ (ks.getD m 0 = 1 ∧ prs ks i m < 0)) : stk ks i = [] := by
  cases e : stk ks i with
  | nil => rfl
  | cons c r =>
    have hc := (stk_iff ks i c).1 (by rw [e]; simp)
    exact absurd ⟨hc.2.1, by omega⟩ (h c hc.1)

set_option maxHeartbeats 2000000 in
set_option maxRecDepth 1000000 in
theorem refPairs_any (l : List (Int × Int)) (v : Value) (w : World) (hr : Syms w v l) (hn : l.length ≤ 100000) :
    Calls Try.prog 32 #[v] w fun e w' => ∃ u, e = .returned u ∧ w'.ownsRow w.heap.size 3 1 u l.length (prsRow l) ∧ Below w.heap.size w w' := by
  obtain ⟨i0, hi, hz0, hz1, hz2⟩ := infoInt
  obtain ⟨o, cap, rfl, hcap, hmax, hrow⟩ := hr
  have Hr := Lib.hid hrow
  clear hrow
  obtain ⟨w2, hmk, hown2, hg2⟩ := run_make_full (P := Try.prog) w w.heap.size 23 3 i0 (.int .i64 0) 1 Try.underlying23 hi hz0 hz1 .i64 .i64 l.length (by rw [hz2]; omega) (by unfold maxLen; omega) (Nat.le_refl _)
  have hzero : (madeCells (Value.int .i64 0).cells (l.length * 1)).toList = outAt (kns l) l.length 0 := by
    rw [outAt_zero, Nat.mul_one]; exact toList_madeCells_one _ _
  rw [hzero] at hown2
  have hB2 : Below w.heap.size w w2 := ⟨hg2.os, hg2.tape, hg2.output, hg2.size, fun k hk => hg2.block k hk (by simp)⟩
  obtain ⟨g, hg⟩ : ∃ g, g = w.heap.size := ⟨_, rfl⟩
  have hgw : w.heap.size ≤ g := by omega
  have hown2' : w2.ownsRow w.heap.size 3 1 (.slice (some ⟨g, 0, none⟩) l.length l.length) l.length (outAt (kns l) l.length 0) := by rw [hg]; exact hown2
  rw [← hg] at hmk
  have HH := Lib.hid (And.intro hown2' hB2)
  clear hg hown2 hown2' hB2 hzero hg2
  go_enter Try.func32, Try.ntmps32
  go_wp2_with fail
  go_loopw [4] (fun i wr => ∃ k : Nat, k ≤ l.length ∧ i = .int .i64 k ∧ wr.ownsRow w.heap.size 3 1 (.slice (some ⟨g, 0, none⟩) l.length l.length) l.length (outAt (kns l) l.length k) ∧ Below w.heap.size w wr)
    (fun i _ => l.length - (intOf i).toNat)
  case atStart => exact ⟨0, Nat.zero_le _, rfl, HH.out.1, HH.out.2⟩
  case round =>
    obtain ⟨k, hk, rfl, hown, hbel⟩ := hrel
    by_cases hkl : k < l.length
    · rcases Hr.out with ⟨h0, _⟩ | ⟨bl, off, rfl, hlt, hcell⟩
      · omega
      have hcg : wr.cell? ⟨g, k, none⟩ = some (.int .i64 (if k < k then prs (kns l) k k else 0)) := by
        rw [hown.cellAt k (by omega)]; simp [outAt, hkl]
      have hfg := hown.frozenAt k
      obtain ⟨w3, hw3⟩ : ∃ x, x = wr.setCell ⟨g, k, none⟩ (.int .i64 (-1)) := ⟨_, rfl⟩
      have hown3 := (hown.stored k (.int .i64 (-1))).1
      have hbel3 : Below w.heap.size w w3 := by rw [hw3]; exact hbel.setCell (by simpa using hgw) _
      rw [← hw3] at hown3
      have hkinds : ∀ m, m < l.length → w3.cell? ⟨bl, off + m * 2 + 1, none⟩ = some (.int .i64 ((kns l).getD m 0)) := by
        intro m hm
        have c2 := hcell _ _ (flat_get l m hm).2
        rw [hbel3.cell hlt, Nat.add_assoc]; exact c2
      have houts : ∀ m, m < k → w3.cell? ⟨g, m, none⟩ = some (.int .i64 (prs (kns l) k m)) ∧ w3.frozen? ⟨g, m, none⟩ = false := by
        intro m hm
        refine ⟨?_, hown3.frozenAt m⟩
        rw [hown3.cellAt m (by omega), List.getElem?_set_ne (by omega)]
        simp [outAt, hm, show m < l.length by omega]
      have hck : w3.cell? ⟨g, k, none⟩ = some (.int .i64 (-1)) := by
        rw [hown3.cellAt k (by omega), List.getElem?_set_self (by rw [outAt_len]; exact hkl)]
      have hfk := hown3.frozenAt k
      obtain ⟨kind, hkind⟩ : ∃ x, x = (kns l).getD k 0 := ⟨_, rfl⟩
      have cK := hkinds k hkl
      rw [← hkind] at cK
      have HK := Lib.hid (And.intro hkind (And.intro hkinds houts))
      have HM := Lib.hid (And.intro hown3 hbel3)
      clear hcell hkind hkinds houts hown hbel hown3 hbel3
      go_wp2_with fail
      rw [← hw3]
      clear hw3 hcg hfg
      have hnext := (outAt_next (kns l) l.length k hkl).2
      rw [← HK.out.1] at hnext
      have HN := Lib.hid hnext
      clear hnext
      go_loopw [5] (fun kk wr2 => ∃ j : Nat, j ≤ k ∧ kk = .int .i64 ((j : Int) - 1) ∧ wr2 = w3 ∧ ∀ m, j ≤ m → m < k → ¬ ((kns l).getD m 0 = 1 ∧ prs (kns l) k m < 0))
        (fun kk _ => (intOf kk + 1).toNat)
      case atStart => exact ⟨k, Nat.le_refl _, rfl, rfl, fun m h1 h2 => by omega⟩
      case round =>
        obtain ⟨j, hj, rfl, rfl, hno⟩ := hrel
        have HNo := Lib.hid hno
        clear hno
        by_cases h2 : kind = 2
        · subst h2
          by_cases hj0 : j = 0
          · subst hj0
            have hs : stk (kns l) k = [] := stk_none _ _ (fun m hm => HNo.out m (Nat.zero_le _) hm)
            have hfin : (outAt (kns l) l.length k).set k (.int .i64 (-1)) = outAt (kns l) l.length (k + 1) := by
              rcases HN.out with ⟨_, h⟩ | ⟨c, _, h, _⟩
              · exact h
              · rw [hs] at h; simp [nextS] at h <;> omega
            have HF := Lib.hid hfin
            clear hs hfin
            go_wp2
            go_roundw
            case rel => exact ⟨k + 1, by omega, by go_num, by rw [← HF.out]; exact HM.out.1, HM.out.2⟩
            case measure => simp [intOf] <;> omega
          · obtain ⟨m, rfl⟩ : ∃ m, j = m + 1 := ⟨j - 1, by omega⟩
            have cm := HK.out.2.1 m (by omega)
            obtain ⟨cp, fp⟩ := HK.out.2.2 m (by omega)
            obtain ⟨km, hkm⟩ : ∃ x, x = (kns l).getD m 0 := ⟨_, rfl⟩
            obtain ⟨pm, hpm⟩ : ∃ x, x = prs (kns l) k m := ⟨_, rfl⟩
            rw [← hkm] at cm
            rw [← hpm] at cp
            by_cases hc : km = 1 ∧ pm < 0
            · obtain ⟨rfl, hp⟩ := hc
              obtain ⟨r, hs⟩ := stk_head (kns l) k m ((stk_iff _ _ _).2 ⟨by omega, hkm.symm, by have := (prs_neg (kns l) k m).1 (by omega); exact this⟩) (fun x hx => by
                have hx2 := (stk_iff _ _ _).1 hx
                rcases Nat.lt_or_ge m x with h | h
                · exact absurd ⟨hx2.2.1, by omega⟩ (HNo.out x h hx2.1)
                · exact h)
              have hfin : ((outAt (kns l) l.length k).set k (.int .i64 m)).set m (.int .i64 k) = outAt (kns l) l.length (k + 1) := by
                rcases HN.out with ⟨h, _⟩ | ⟨c, _, h, h3⟩
                · rw [hs] at h; simp [nextS] at h <;> omega
                · rw [hs] at h; simp [nextS] at h
                  have : c = m := by omega
                  subst this; exact h3
              have hset : ((((outAt (kns l) l.length k).set k (.int .i64 (-1))).set k (.int .i64 m)).set m (.int .i64 k)) = outAt (kns l) l.length (k + 1) := by
                rw [List.set_set, hfin]
              have hs1 := (HM.out.1.stored k (.int .i64 m)).1
              have hs2 := (hs1.stored m (.int .i64 k)).1
              rw [hset] at hs2
              have HF := Lib.hid (And.intro hs2 ((HM.out.2.setCell (p := ⟨g, k, none⟩) (by simpa using hgw) (.int .i64 m)).setCell (p := ⟨g, m, none⟩) (by simpa using hgw) (.int .i64 k)))
              clear hs hfin hset hs1 hs2 hkm hpm
              go_wp2
              go_roundw
              case rel => exact ⟨k + 1, by omega, by go_num, HF.out.1, HF.out.2⟩
              case measure => simp [intOf] <;> omega
            · have hno2 : ∀ x, m ≤ x → x < k → ¬ ((kns l).getD x 0 = 1 ∧ prs (kns l) k x < 0) := by
                intro x h3 h4
                by_cases e : x = m
                · subst e; rw [← hkm, ← hpm]; exact hc
                · exact HNo.out x (by omega) h4
              have HN2 := Lib.hid hno2
              have hcase : ¬ km = 1 ∨ (km = 1 ∧ ¬ pm < 0) := by
                by_cases h : km = 1
                · exact .inr ⟨h, fun h3 => hc ⟨h, h3⟩⟩
                · exact .inl h
              clear hno2 hc hkm hpm
              rcases hcase with h | ⟨rfl, h⟩
              all_goals (
                go_wp2
                go_roundw
                case rel => exact ⟨m, by omega, by go_num, trivial, HN2.out⟩
                case measure => simp [intOf] <;> omega)
        · have hfin : (outAt (kns l) l.length k).set k (.int .i64 (-1)) = outAt (kns l) l.length (k + 1) := by
            rcases HN.out with ⟨_, h⟩ | ⟨c, _, h, _⟩
            · exact h
            · by_cases h1 : kind = 1
              · simp [nextS, h1] at h <;> omega
              · simp [nextS, h1, h2] at h <;> omega
          have HF := Lib.hid hfin
          clear hfin
          by_cases hj0 : j = 0
          · subst hj0
            go_wp2
            go_roundw
            case rel => exact ⟨k + 1, by omega, by go_num, by rw [← HF.out]; exact HM.out.1, HM.out.2⟩
            case measure => simp [intOf] <;> omega
          · go_wp2
            go_roundw
            case rel => exact ⟨k + 1, by omega, by go_num, by rw [← HF.out]; exact HM.out.1, HM.out.2⟩
            case measure => simp [intOf] <;> omega
    · have hkn : k = l.length := by omega
      subst hkn
      go_wp2
      go_ret
      rw [outAt_end] at hown
      exact ⟨_, rfl, hown, hbel⟩
end Go.Proofs.Ytjeploipaejepaa
