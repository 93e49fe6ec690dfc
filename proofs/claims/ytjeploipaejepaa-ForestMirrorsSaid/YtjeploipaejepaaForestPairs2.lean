/- forest: the walk of Pairs. -/
import Derived.Test.YtjeploipaejepaaForestPairs
set_option linter.unusedVariables false
set_option linter.unusedSimpArgs false
namespace Go.Proofs.Ytjeploipaejepaa
open Go.RowKit Fo

/-- v is a slice of the symbols l -/
def Syms (w : World) (v : Value) (l : List (Int × Int)) : Prop := Row w v l.length (flat l)

/-- the partners of all, as cells -/
def prsRow (l : List (Int × Int)) : List Value := (List.range l.length).map fun j => Value.int .i64 (prs (kns l) l.length j)

theorem mat_alloc {w : World} {b qa qo k : Nat} {st : List Nat} (h : Mat w b qa qo k st) (o : Obj) : Mat (w.alloc o) b qa qo k st := by
  obtain ⟨h1, h2, h3, h4, h5, v, h6, h7⟩ := h
  exact ⟨h1, h2, h3, by simp; omega, by rw [Below.heap_alloc _ _ _ (by omega)]; exact h5, v, by rw [Below.heap_alloc _ _ _ (by omega)]; exact h6, h7.alloc _⟩
theorem mat_set {w : World} {b qa qo k g i : Nat} {st : List Nat} (h : Mat w b qa qo k st) (hg : g < b) (h1 : qa ≠ g) (h2 : qo ≠ g) (x : Value) : Mat (w.setCell ⟨g, i, none⟩ x) b qa qo k st := by
  obtain ⟨a1, a2, a3, a4, a5, v, a6, a7⟩ := h
  exact ⟨a1, a2, a3, by simpa using a4, by rw [Below.heap_setCell _ _ _ _ h1]; exact a5, v, by rw [Below.heap_setCell _ _ _ _ h2]; exact a6, ownsRow_setCell_below a7 (by simpa using hg) _⟩
theorem owns_but {w w' : World} {base b qa qo g n c size : Nat} {e : TypeId} {xs : List Value} (h : w.ownsRow base e size (.slice (some ⟨g, 0, none⟩) n c) n xs) (hb : But w w' b qa qo) (hg : g < b) (h1 : qa ≠ g) (h2 : qo ≠ g) :
    w'.ownsRow base e size (.slice (some ⟨g, 0, none⟩) n c) n xs := by
  obtain ⟨k1, ⟨hv, _⟩ | ⟨g', cap, cur, hv, hg', hh, hr⟩⟩ := h
  · cases hv
  · simp only [Value.slice.injEq, Option.some.injEq, Addr.mk.injEq, and_true, true_and] at hv
    obtain ⟨rfl, rfl⟩ := hv
    exact ⟨k1, .inr ⟨g, c, cur, rfl, hg', by rw [hb.block g hg (fun e => h1 e.symm) (fun e => h2 e.symm)]; exact hh, hr⟩⟩
theorem but_below {w w' : World} {B b qa qo : Nat} (h : But w w' b qa qo) (h1 : B ≤ b) (h2 : B ≤ qa) (h3 : B ≤ qo) : Below B w w' :=
  ⟨h.os, h.tape, h.output, h.size, fun k hk => h.block k (by omega) (by omega) (by omega)⟩
theorem matcherE_any (w : World) : Calls Try.prog 44 #[] w fun e w' =>
    ∃ qa qo : Nat, e = .returned (.func (Fn.func 52) #[] #[.pointer (some ⟨qa, 0, none⟩), .pointer (some ⟨qo, 0, none⟩)]) ∧
      (∀ b, w'.heap.size ≤ b → ∀ w2, Below w'.heap.size w' w2 → b ≤ w2.heap.size → Mat w2 b qa qo 0 []) ∧ w.heap.size ≤ qa ∧ w.heap.size ≤ qo ∧ qa < w'.heap.size ∧ qo < w'.heap.size ∧ Below w.heap.size w w' := by
  refine (matcher_any w).mono ?_
  rintro e w' ⟨rfl, h1, h2, h3⟩
  exact ⟨_, _, rfl, fun b hb w2 hw => h1 b (by omega) w2 hw, by omega, by omega, by omega, by omega, h3⟩

set_option maxHeartbeats 1000000 in
set_option maxRecDepth 1000000 in
theorem pairs_any (l : List (Int × Int)) (v : Value) (w : World) (hr : Syms w v l) (hn : l.length ≤ 100000) :
    Calls Try.prog 28 #[v] w fun e w' => ∃ u, e = .returned u ∧ w'.ownsRow w.heap.size 3 1 u l.length (prsRow l) ∧ Below w.heap.size w w' := by
  obtain ⟨i0, hi, hz0, hz1, hz2⟩ := infoInt
  obtain ⟨o, cap, rfl, hcap, hmax, hrow⟩ := hr
  have Hr := Lib.hid hrow
  clear hrow
  go_enter Try.func28, Try.ntmps28
  go_wp2_with fail
  refine (matcherE_any _).mono ?_
  rintro e w1 ⟨qa, qo, rfl, hmat, hqa, hqo, hqa1, hqo1, hb1⟩
  obtain ⟨w2, hmk, hown2, hg2⟩ := run_make_full (P := Try.prog) w1 w.heap.size 23 3 i0 (.int .i64 0) 1 Try.underlying23 hi hz0 hz1 .i64 .i64 l.length (by rw [hz2]; omega) (by unfold maxLen; omega) hb1.size
  have hw2s := hown2.lt w1.heap.size rfl
  have hB12 : Below w1.heap.size w1 w2 := ⟨hg2.os, hg2.tape, hg2.output, hg2.size, fun k hk => hg2.block k hk (by simp)⟩
  have hB2 : Below w.heap.size w w2 := bel_then hb1 hB12
  have hM := hmat w2.heap.size (by omega) w2 hB12 (Nat.le_refl _)
  have hzero : (madeCells (Value.int .i64 0).cells (l.length * 1)).toList = outAt (kns l) l.length 0 := by
    rw [outAt_zero, Nat.mul_one]; exact toList_madeCells_one _ _
  rw [hzero] at hown2
  obtain ⟨g, hg⟩ : ∃ g, g = w1.heap.size := ⟨_, rfl⟩
  obtain ⟨b, hb⟩ : ∃ b, b = w2.heap.size := ⟨_, rfl⟩
  rw [← hg] at hown2 hmk hqa1 hqo1 hw2s
  rw [← hb] at hM hw2s
  have hM0 : Mat w2 b qa qo 0 (stk (kns l) 0) := hM
  have HH := Lib.hid (And.intro hM0 (And.intro hown2 hB2))
  clear hg hb hM hM0 hown2 hB2 hzero hB12 hg2 hmat hb1
  go_wp2_with fail
  go_loopw [15] (fun i wr => ∃ k : Nat, k ≤ l.length ∧ i = .int .i64 k ∧ Mat wr b qa qo k (stk (kns l) k) ∧ wr.ownsRow w.heap.size 3 1 (.slice (some ⟨g, 0, none⟩) l.length l.length) l.length (outAt (kns l) l.length k) ∧ Below w.heap.size w wr)
    (fun i _ => l.length - (intOf i).toNat)
  case atStart => exact ⟨0, Nat.zero_le _, rfl, HH.out.1, HH.out.2.1, HH.out.2.2⟩
  case round =>
    obtain ⟨k, hk, rfl, hM, hown, hbel⟩ := hrel
    by_cases hkl : k < l.length
    · rcases Hr.out with ⟨h0, _⟩ | ⟨bl, off, rfl, hlt, hcell⟩
      · omega
      obtain ⟨hc1, hc2⟩ := flat_get l k hkl
      have c1 := hcell _ _ hc1
      have c2 := hcell _ _ hc2
      rw [← hbel.cell hlt] at c1 c2
      rw [← Nat.add_assoc] at c2
      obtain ⟨tok, htok⟩ : ∃ x, x = (tks l).getD k 0 := ⟨_, rfl⟩
      obtain ⟨kind, hkind⟩ : ∃ x, x = (kns l).getD k 0 := ⟨_, rfl⟩
      rw [← htok] at c1
      rw [← hkind] at c2
      have HK := Lib.hid hkind
      have HM := Lib.hid (And.intro hM (And.intro hown hbel))
      clear hcell hc1 hc2 htok hkind hM hown hbel
      go_wp2_with fail
      obtain ⟨hM, hown, hbel⟩ := HM.out
      refine (next_any b qa qo k (stk (kns l) k) tok kind _ (mat_alloc hM _) (by omega) (by have := stk_len (kns l) k; omega)).mono ?_
      rintro e w3 ⟨rfl, hM3, hbt⟩
      have hgb : g < b := by omega
      have hga : qa ≠ g := by omega
      have hgo : qo ≠ g := by omega
      have hown3 := owns_but (hown.alloc _) hbt hgb hga hgo
      have hbel3 : Below w.heap.size w w3 := (hbel.alloc hbel.size _).trans (but_below hbt (by omega) hqa hqo)
      obtain ⟨hn1, hn2⟩ := outAt_next (kns l) l.length k hkl
      rw [← HK.out] at hn1 hn2
      have hc3 : w3.cell? ⟨g, k, none⟩ = some (.int .i64 (if k < k then prs (kns l) k k else 0)) := by
        rw [hown3.cellAt k (by omega)]; simp [outAt, hkl]
      have hf3 := hown3.frozenAt k
      rw [hn1] at hM3 ⊢
      clear hM hown hbel hbt c1 c2
      rcases hn2 with ⟨hn3, hn4⟩ | ⟨c, hck, hn3, hn4⟩
      · rw [hn3]
        have hs := hown3.stored k (.int .i64 (-1))
        rw [hn4] at hs
        have HS := Lib.hid (And.intro (mat_set (i := k) hM3 hgb hga hgo (.int .i64 (-1))) (And.intro hs.1 (hbel3.setCell (p := ⟨g, k, none⟩) (by simpa using hw2s.1) (.int .i64 (-1)))))
        clear hs hn4 hown3 hM3 hbel3 hn1 hn3
        go_wp2
        go_roundw
        case rel => exact ⟨k + 1, by omega, by go_num, HS.out⟩
        case measure => simp [intOf]; omega
      · rw [hn3]
        have hs1 := (hown3.stored k (.int .i64 c)).1
        have hs := (hs1.stored c (.int .i64 k)).1
        rw [hn4] at hs
        have hc4 : w3.cell? ⟨g, c, none⟩ = some (.int .i64 (if c < k then prs (kns l) k c else 0)) := by
          rw [hown3.cellAt c (by omega)]; simp [outAt, show c < l.length by omega]
        have hf4 := hown3.frozenAt c
        have HS := Lib.hid (And.intro (mat_set (i := c) (mat_set (i := k) hM3 hgb hga hgo (.int .i64 c)) hgb hga hgo (.int .i64 k)) (And.intro hs ((hbel3.setCell (p := ⟨g, k, none⟩) (by simpa using hw2s.1) (.int .i64 c)).setCell (p := ⟨g, c, none⟩) (by simpa using hw2s.1) (.int .i64 k))))
        clear hs hs1 hn4 hown3 hM3 hbel3 hn1 hn3
        go_wp2
        go_roundw
        case rel => exact ⟨k + 1, by omega, by go_num, HS.out⟩
        case measure => simp [intOf]; omega
    · have hkn : k = l.length := by omega
      subst hkn
      go_wp2
      go_ret
      rw [outAt_end] at hown
      exact ⟨_, rfl, hown, hbel⟩
end Go.Proofs.Ytjeploipaejepaa
