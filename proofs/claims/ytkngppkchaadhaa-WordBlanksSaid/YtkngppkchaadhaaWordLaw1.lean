/- The walk of WordPlaces. -/
import Derived.Test.YtkngppkchaadhaaWordTold
set_option linter.unusedVariables false
set_option linter.unusedSimpArgs false
namespace Go.Proofs.Ytkngppkchaadhaa
open Go.RowKit De Wd

namespace Wd
theorem sc_parts (a : Nat) (l : List Int) : (∀ (k b : Nat) (x : Wt), (sc a l).1[k]? = some (b, x) → a ≤ b ∧ b - a < l.length ∧ wd (l.drop (b - a)) = some x ∧ x.k ≠ 0) ∧
    (∀ (k b : Nat) (x : Wt) (b' : Nat) (x' : Wt), (sc a l).1[k]? = some (b, x) → (sc a l).1[k + 1]? = some (b', x') → b + x.z ≤ b') := by
  refine sc_ind (P := fun a l => (∀ (k b : Nat) (x : Wt), (sc a l).1[k]? = some (b, x) → a ≤ b ∧ b - a < l.length ∧ wd (l.drop (b - a)) = some x ∧ x.k ≠ 0) ∧
    (∀ (k b : Nat) (x : Wt) (b' : Nat) (x' : Wt), (sc a l).1[k]? = some (b, x) → (sc a l).1[k + 1]? = some (b', x') → b + x.z ≤ b')) ?_ ?_ ?_ a l
  · intro a; rw [sc_nil]; simp
  · intro a l hl h; rw [sc_none hl h]; simp
  · intro a l x h ih
    obtain ⟨i1, i2⟩ := ih
    have h1 := (wd_ok h).1
    have h2 := (wd_ok h).2.1
    have hd : ∀ b, a + x.z ≤ b → (l.drop x.z).drop (b - (a + x.z)) = l.drop (b - a) := by
      intro b hb; rw [List.drop_drop]; congr 1; omega
    have j1 : ∀ (k b : Nat) (y : Wt), (sc (a + x.z) (l.drop x.z)).1[k]? = some (b, y) → a ≤ b ∧ b - a < l.length ∧ wd (l.drop (b - a)) = some y ∧ y.k ≠ 0 ∧ a + x.z ≤ b := by
      intro k b y hk
      obtain ⟨q1, q2, q3, q4⟩ := i1 k b y hk
      rw [hd b q1] at q3
      rw [List.length_drop] at q2
      exact ⟨by omega, by omega, q3, q4, q1⟩
    rw [sc_cons h]
    by_cases hk : x.k = 0
    · rw [if_pos hk]
      exact ⟨fun k b y hkk => by obtain ⟨q1, q2, q3, q4, _⟩ := j1 k b y hkk; exact ⟨q1, q2, q3, q4⟩, i2⟩
    · rw [if_neg hk]
      refine ⟨fun k b y hkk => ?_, fun k b y b' y' hk1 hk2 => ?_⟩
      · cases k with
        | zero =>
          simp only [List.getElem?_cons_zero, Option.some.injEq, Prod.mk.injEq] at hkk
          obtain ⟨rfl, rfl⟩ := hkk
          exact ⟨Nat.le_refl _, by omega, by simpa using h, hk⟩
        | succ k =>
          obtain ⟨q1, q2, q3, q4, _⟩ := j1 k b y (by simpa using hkk)
          exact ⟨q1, q2, q3, q4⟩
      · cases k with
        | zero =>
          simp only [List.getElem?_cons_zero, Option.some.injEq, Prod.mk.injEq] at hk1
          obtain ⟨rfl, rfl⟩ := hk1
          exact (j1 0 b' y' (by simpa using hk2)).2.2.2.2
        | succ k => exact i2 k b y b' y' (by simpa using hk1) (by simpa using hk2)
/-- where the words ahead of the k-th one end -/
def wEnd (W : List (Nat × Wt)) (k : Nat) : Nat := match k with
  | 0 => 0
  | k + 1 => match W[k]? with | some p => p.1 + p.2.z | none => 0
theorem wEnd_le {l : List Int} {W : List (Nat × Wt)} (hW : (sc 0 l).1 = W) (k : Nat) : wEnd W k ≤ l.length := by
  cases k with
  | zero => exact Nat.zero_le _
  | succ k =>
    show (match W[k]? with | some p => p.1 + p.2.z | none => 0) ≤ _
    cases hk : W[k]? with
    | none => exact Nat.zero_le _
    | some p =>
      obtain ⟨b, x⟩ := p
      obtain ⟨_, q2, q3, _⟩ := (sc_parts 0 l).1 k b x (by rw [hW]; exact hk)
      have := (wd_ok q3).2.1
      rw [List.length_drop] at this
      simp only; omega
theorem wEnd_at {l : List Int} {W : List (Nat × Wt)} (hW : (sc 0 l).1 = W) (k : Nat) (b : Nat) (x : Wt) (hk : W[k]? = some (b, x)) : wEnd W k ≤ b ∧ wEnd W (k + 1) = b + x.z := by
  refine ⟨?_, by simp [wEnd, hk]⟩
  cases k with
  | zero => exact Nat.zero_le _
  | succ k =>
    show (match W[k]? with | some p => p.1 + p.2.z | none => 0) ≤ _
    cases hk2 : W[k]? with
    | none => exact Nat.zero_le _
    | some p =>
      obtain ⟨b', x'⟩ := p
      exact (sc_parts 0 l).2 k b' x' b x (by rw [hW]; exact hk2) (by rw [hW]; exact hk)
theorem rs_bad_lt {l : List Int} {c : Int} {a : Nat} (hl : l.length ≤ 4000) (h : rs l = .bad c a) : c = 2 ∧ a < l.length := by
  unfold rs at h
  rw [if_neg (by omega)] at h
  cases hs : (sc 0 l).2 with
  | some b =>
    rw [hs] at h
    simp only [Rs.bad.injEq] at h
    have := sc_fail hs
    omega
  | none =>
    rw [hs] at h
    simp only at h
    split at h
    · simp only [Rs.bad.injEq] at h; omega
    · cases h
theorem rs_ok_sc {l : List Int} {W : List (Nat × Wt)} (h : rs l = .ok W) : (sc 0 l).1 = W ∧ (sc 0 l).2 = none ∧ l.length ≤ 4000 ∧ ¬ fb l < l.length := by
  unfold rs at h
  split at h
  · cases h
  · cases hs : (sc 0 l).2 with
    | some b => rw [hs] at h; cases h
    | none =>
      rw [hs] at h
      simp only at h
      split at h
      · cases h
      · simp only [Rs.ok.injEq] at h; exact ⟨h, rfl, by omega, by assumption⟩
end Wd
theorem wcs_get (s : ByteArray) (W : List (Nat × Wt)) : ∀ (k i : Nat) (p : Nat × Wt), W[k]? = some p → i < 3 → (wcs s W)[k * 3 + i]? = (wval s p.1 p.2)[i]? := by
  induction W with
  | nil => intro k i p h; simp at h
  | cons q W ih =>
    intro k i p h hi
    have e : wcs s (q :: W) = wval s q.1 q.2 ++ wcs s W := by simp [wcs]
    have hl : (wval s q.1 q.2).length = 3 := by simp [wval]
    rw [e]
    cases k with
    | zero =>
      simp at h; subst h
      rw [List.getElem?_append_left (by omega)]; simp
    | succ k =>
      rw [List.getElem?_append_right (by omega)]
      have := ih k i p (by simpa using h) hi
      rw [← this]; congr 1; omega
/-- the cells of a word of a row -/
theorem Row.word {w : World} {v : Value} {s : ByteArray} {W : List (Nat × Wt)} (h : Row w v W.length (wcs s W)) {k : Nat} {b : Nat} {x : Wt} (hk : W[k]? = some (b, x)) (hx : x.k ≠ 0) :
    ∃ g off cap, v = .slice (some ⟨g, off, none⟩) W.length cap ∧ g < w.heap.size ∧ w.cell? ⟨g, off + k * 3, none⟩ = some (.int .i64 x.k) ∧
      w.cell? ⟨g, off + k * 3 + 1, none⟩ = some (.string (s.extract (b + x.o) (b + x.o + x.n))) ∧ w.cell? ⟨g, off + k * 3 + 2, none⟩ = some (.int .i64 b) := by
  have hlt : k < W.length := (List.getElem?_eq_some_iff.1 hk).1
  obtain ⟨g, off, cap, rfl, hg, hc⟩ := h.cells (by omega)
  have q := fun i hi => wcs_get s W k i _ hk hi
  refine ⟨g, off, cap, rfl, hg, ?_, ?_, ?_⟩
  · have := hc (k * 3 + 0) (.int .i64 x.k) (by rw [q 0 (by omega)]; rfl); simpa [Nat.add_assoc] using this
  · have := hc (k * 3 + 1) (.string (s.extract (b + x.o) (b + x.o + x.n))) (by rw [q 1 (by omega)]; rfl); simpa [Nat.add_assoc] using this
  · have := hc (k * 3 + 2) (.int .i64 b) (by rw [q 2 (by omega)]; simp [wval, hx]); simpa [Nat.add_assoc] using this
theorem int_eq' {k : IntKind} {a b : Int} (h : a = b) : Value.int k a = Value.int k b := by rw [h]
theorem byte_at {s : ByteArray} {b j : Nat} {c : Int} (h : ((sb s).drop b)[j]? = some c) : ∃ h : b + j < s.size, (s[b + j].toNat : Int) = c := by
  rw [List.getElem?_drop] at h
  have hl : b + j < s.size := by have := (List.getElem?_eq_some_iff.1 h).1; rwa [sb_len] at this
  refine ⟨hl, ?_⟩
  have := sb_get s (b + j) hl
  rw [List.getD, h] at this
  exact this.symm

set_option maxHeartbeats 4000000 in
set_option maxRecDepth 1000000 in
theorem wordPlaces_walk (s : ByteArray) (w : World) (hs : s.size ≤ maxLen) : Calls Try.prog 4 #[.string s] w fun e w' => e = .returned (.bool true) ∧ Below w.heap.size w w' := by
  unfold maxLen at hs
  by_cases hlen : 400 < s.size
  · go_enter Try.func4, Try.ntmps4
    go_wp2_with (go_at_call 7; refine (told_any _).mono ?_; rintro e w1 ⟨rfl, hb1⟩)
    go_ret
    exact ⟨rfl, hb1⟩
  have hl4 : s.size ≤ 400 := by omega
  clear hs hlen
  have hall := wordAll_any s w (by omega)
  unfold AllPost at hall
  cases hr : rs (sb s) with
  | bad c a =>
    rw [hr] at hall
    simp only at hall
    obtain ⟨rfl, ha⟩ := rs_bad_lt (by rw [sb_len]; omega) hr
    rw [sb_len] at ha
    have HA := Lib.hid hall
    clear hall hr
    go_enter Try.func4, Try.ntmps4
    go_wp2_with fail
    refine HA.out.mono ?_
    rintro e w1 ⟨rfl, hb1⟩
    go_wp2_with (go_at_call 7; refine (told_any _).mono ?_; rintro e w2 ⟨rfl, hb2⟩)
    go_ret
    exact ⟨rfl, bel_then hb1 hb2⟩
  | ok W =>
    rw [hr] at hall
    simp only at hall
    obtain ⟨hW, _, _, _⟩ := rs_ok_sc hr
    have hWl : W.length ≤ s.size := by rw [← hW, ← sb_len]; exact sc_len _ _
    have HA := Lib.hid hall
    have HW := Lib.hid hW
    clear hall hr hW
    go_enter Try.func4, Try.ntmps4
    go_wp2_with fail
    refine HA.out.mono ?_
    rintro e w1 ⟨u1, rfl, hown1, hb1⟩
    obtain ⟨o1, c1, rfl⟩ := owns_slice hown1
    have H1 := Lib.hid (And.intro (Row.owned hown1) hb1)
    clear hown1 hb1 HA
    go_wp2_with fail
    go_loopw [6, 7] (fun e i wr => ∃ k : Nat, k ≤ W.length ∧ i = .int .i64 k ∧ e = .int .i64 (wEnd W k) ∧ Below w1.heap.size w1 wr) (fun _ i _ => W.length - (intOf i).toNat)
    case atStart => exact ⟨0, Nat.zero_le _, rfl, rfl, Below.refl _ _⟩
    case round =>
      obtain ⟨k, hk, rfl, rfl, hbel⟩ := hrel
      obtain ⟨wo, rfl⟩ : ∃ wo : World, wo = wr := ⟨_, rfl⟩
      have hwl := wEnd_le HW.out k
      rw [sb_len] at hwl
      by_cases hkt : k < W.length
      · obtain ⟨p, hp⟩ : ∃ p, W[k]? = some p := ⟨W[k], List.getElem?_eq_getElem hkt⟩
        obtain ⟨b, x⟩ := p
        obtain ⟨_, q2, q3, q4⟩ := (sc_parts 0 (sb s)).1 k b x (by rw [HW.out]; exact hp)
        obtain ⟨e1, e2⟩ := wEnd_at HW.out k b x hp
        obtain ⟨g, off, cap, e, hg, a0, a1, a2⟩ := (H1.out.1.below hbel).word hp q4
        simp only [Value.slice.injEq, true_and] at e
        obtain ⟨rfl, rfl⟩ := e
        rw [Nat.sub_zero] at q2 q3
        have hwk := wd_ok q3
        rw [List.length_drop, sb_len] at hwk
        rw [sb_len] at q2
        obtain ⟨kk, o, n, z⟩ := x
        simp only at hwk q4 a0 a1 a2 e2
        obtain ⟨z1, z2, z3, z4, z5, z6, z7, z8⟩ := hwk
        have HE := Lib.hid (And.intro e2 hbel)
        have hii : (0 : Int) ≤ (k : Int) := by omega
        have hij : (k : Int) < (W.length : Int) := by omega
        have g1 : decide ((b : Int) < (wEnd W k : Int)) = false := by simp; omega
        have g2 : decide ((b : Int) < 0) = false := by simp
        have g1' : decide (b < wEnd W k) = false := by simp; omega
        clear e2 hbel q3 hp z5
        rcases (show (1 ≤ kk ∧ kk ≤ 3) ∨ kk = 4 ∨ kk = 5 from by omega) with h3 | rfl | rfl
        · obtain ⟨rfl, rfl⟩ := z6 h3
          simp only [Nat.add_zero] at a1
          obtain ⟨tx, htx⟩ : ∃ tx, tx = s.extract b (b + n) := ⟨_, rfl⟩
          rw [← htx] at a1
          have hts : tx.size = n := by rw [htx]; simp; omega
          subst hts
          have hsx : s.extract b (b + tx.size) = tx := htx.symm
          have g3 : decide ((s.size : Int) < (b : Int) + (tx.size : Int)) = false := by simp; omega
          have g3' : decide (s.size < b + tx.size) = false := by simp; omega
          have g4 : decide (kk < 1) = false := by simp; omega
          have g5 : decide (5 < kk) = false := by simp; omega
          have g6 : (kk == 5) = false := by simp; omega
          have g7 : (kk == 4) = false := by simp; omega
          have g8 : decide (3 < kk) = false := by simp; omega
          have hto : ((b : Int) + (tx.size : Int)).toNat = b + tx.size := by omega
          have hik : (0 : Int) ≤ (b : Int) := by omega
          have hil : (b : Int) ≤ (b : Int) + (tx.size : Int) := by omega
          have him : (b : Int) + (tx.size : Int) ≤ (s.size : Int) := by omega
          clear htx z6 z7 z8
          go_wp2
          simp only [List.append_eq, List.cons_append, List.nil_append]
          go_quiet (fail)
          go_wp2
          go_roundw
          case rel => exact ⟨k + 1, by omega, by go_num, int_eq' (by rw [HE.out.1]; simp), below_drewN (bel_new HE.out.2 _) _⟩
          case measure => simp [intOf]; omega
        · obtain ⟨rfl, rfl, y1, y2⟩ := z7 rfl
          obtain ⟨_, v1⟩ := byte_at y1
          obtain ⟨v0, v2⟩ := byte_at y2
          have ev : b + (n + 1) = b + 1 + n := by omega
          simp only [ev] at v0 v2
          simp only [Nat.add_zero] at v1
          obtain ⟨tx, htx⟩ : ∃ tx, tx = s.extract (b + 1) (b + 1 + n) := ⟨_, rfl⟩
          rw [← htx] at a1
          have hts : tx.size = n := by rw [htx]; simp; omega
          subst hts
          have hsx : s.extract (b + 1) (b + 1 + tx.size) = tx := htx.symm
          have g3 : decide ((s.size : Int) < (b : Int) + 1 + (tx.size : Int)) = false := by simp; omega
          have g3' : decide (s.size < b + 1 + tx.size) = false := by simp; omega
          have g5' : decide (s.size ≤ b + 1 + tx.size) = false := by simp; omega
          have g4 : decide ((b : Int) + 1 < 0) = false := by simp; omega
          have g5 : decide ((s.size : Int) ≤ (b : Int) + 1 + (tx.size : Int)) = false := by simp; omega
          have w1' : ((s[b].toNat : Int) != 47) = false := by rw [v1]; rfl
          have w2' : ((s[b + 1 + tx.size].toNat : Int) != 47) = false := by rw [v2]; rfl
          have hto : ((b : Int) + 1 + (tx.size : Int)).toNat = b + 1 + tx.size := by omega
          have hto2 : ((b : Int) + 1).toNat = b + 1 := by omega
          have hik : (0 : Int) ≤ (b : Int) + 1 := by omega
          have hil : (b : Int) + 1 ≤ (b : Int) + 1 + (tx.size : Int) := by omega
          have him : (b : Int) + 1 + (tx.size : Int) < (s.size : Int) := by omega
          have him2 : (b : Int) + 1 + (tx.size : Int) ≤ (s.size : Int) := by omega
          have him3 : b + 1 + tx.size ≤ s.size := by omega
          have him4 : (0 : Int) ≤ (b : Int) + 1 + (tx.size : Int) := by omega
          have hin : (b : Int) < (s.size : Int) := by omega
          clear htx z6 z7 z8 y1 y2 v1 v2 ev
          go_wp2
          have hw1 : IntKind.i64.wrap ((b : Int) + 1 + (tx.size : Int)) = (b : Int) + 1 + (tx.size : Int) := iwrap (by omega)
          simp only [List.append_eq, List.cons_append, List.nil_append]
          go_quiet (fail)
          go_wp2
          go_roundw
          case rel => exact ⟨k + 1, by omega, by go_num, int_eq' (by rw [HE.out.1]; simp; omega), below_drewN (bel_new HE.out.2 _) _⟩
          case measure => simp [intOf]; omega
        · obtain ⟨rfl, rfl, rfl, y1⟩ := z8 rfl
          obtain ⟨_, v1⟩ := byte_at y1
          simp only [Nat.add_zero] at v1 a1
          rw [ext_nil] at a1
          have hsx := ext_nil s b
          have g3 : decide ((s.size : Int) < (b : Int)) = false := by simp; omega
          have g3' : decide (s.size < b) = false := by simp; omega
          have w1' : ((s[b].toNat : Int) != 10) = false := by rw [v1]; rfl
          have hik : (0 : Int) ≤ (b : Int) := by omega
          have hin : (b : Int) < (s.size : Int) := by omega
          clear z6 z7 z8 y1 v1
          go_wp2
          simp only [List.append_eq, List.cons_append, List.nil_append]
          go_quiet (fail)
          go_wp2
          go_roundw
          case rel => exact ⟨k + 1, by omega, by go_num, int_eq' (by rw [HE.out.1]; simp), below_drewN (bel_new HE.out.2 _) _⟩
          case measure => simp [intOf]; omega
      · have hkn : k = W.length := by omega
        subst hkn
        go_wp2_with (go_at_call 7; refine (told_any _).mono ?_; rintro e w4 ⟨rfl, hb4⟩)
        go_ret
        exact ⟨rfl, bel_then H1.out.2 (bel_then hbel hb4)⟩
end Go.Proofs.Ytkngppkchaadhaa
