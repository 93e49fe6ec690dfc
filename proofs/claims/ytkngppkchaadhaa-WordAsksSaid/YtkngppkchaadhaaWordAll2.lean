/- word: All, of a text that is not too long. -/
import Derived.Test.YtkngppkchaadhaaWordAll
set_option linter.unusedVariables false
set_option linter.unusedSimpArgs false
namespace Go.Proofs.Ytkngppkchaadhaa
open Go.RowKit De Wd

theorem fb_le (l : List Int) : fb l ≤ l.length := by
  unfold fb
  cases hf : (all 0 l).find? (·.2.bad) with
  | none => exact Nat.le_refl _
  | some p =>
    have hm := List.mem_of_find?_eq_some hf
    have : ∀ a l, ∀ p ∈ all a l, p.1 < a + l.length := by
      have : ∀ n a (l : List Int), l.length ≤ n → ∀ p ∈ all a l, p.1 < a + l.length := by
        intro n
        induction n with
        | zero => intro a l h p hp; have : l = [] := List.eq_nil_of_length_eq_zero (by omega); subst this; rw [all_nil] at hp; simp at hp
        | succ n ih =>
          intro a l h p hp
          by_cases hl : l = []
          · subst hl; rw [all_nil] at hp; simp at hp
          · rw [all_cons a l hl, List.mem_cons] at hp
            have h1 := (one_n l).1
            have h2 := (one_n l).2.2 hl
            rcases hp with rfl | hp
            · simp; omega
            · have := ih _ _ (by rw [List.length_drop]; omega) p hp
              rw [List.length_drop] at this
              omega
      exact fun a l => this l.length a l (Nat.le_refl _)
    have := this 0 l p hm
    simp only; omega
/-- the loop's state: the words so far in u, the next place a -/
structure AllAt (s : ByteArray) (w wr : World) (q a : Nat) (u : Value) (W : List (Nat × Wt)) : Prop where
  le : a ≤ s.size
  hold : Hold3 w wr u
  lo : w.heap.size + 1 + 1 < q
  hi : q < wr.heap.size
  bad : wr.heap[q]? = some (.cells #[.int .i64 (fb (sb s) : Int)] 3 (0, 0))
  own : wr.ownsRow (q + 1) 36 3 u W.length (wcs s W)
  len : W.length ≤ a
  sc : Wd.sc 0 (sb s) = (W ++ (Wd.sc a ((sb s).drop a)).1, (Wd.sc a ((sb s).drop a)).2)
theorem rs_none {l : List Int} (hl : ¬ 4000 < l.length) {a : Nat} (h : (sc 0 l).2 = some a) : rs l = .bad 2 (min a (fb l)) := by
  unfold rs; rw [if_neg hl, h]
theorem rs_bad {l : List Int} (hl : ¬ 4000 < l.length) (h : (sc 0 l).2 = none) (hf : fb l < l.length) : rs l = .bad 2 (fb l) := by
  unfold rs; rw [if_neg hl, h]; simp only [if_pos hf]
theorem rs_ok {l : List Int} (hl : ¬ 4000 < l.length) (h : (sc 0 l).2 = none) (hf : ¬ fb l < l.length) : rs l = .ok (sc 0 l).1 := by
  unfold rs; rw [if_neg hl, h]; simp only [if_neg hf]

theorem Hold3.grown {w a b : World} {u : Value} {row : Option Nat} (h : Hold3 w a u) (hs : w.heap.size + 1 + 1 < a.heap.size) (hg : a.grownBy b row) (hr : ∀ j, row = some j → w.heap.size + 1 + 1 < j) : Hold3 w b u :=
  ⟨by rw [hg.block _ (by omega) (fun e => by have := hr _ e.symm; omega)]; exact h.h0, by rw [hg.block _ (by omega) (fun e => by have := hr _ e.symm; omega)]; exact h.h1, by rw [hg.block _ (by omega) (fun e => by have := hr _ e.symm; omega)]; exact h.h2,
    h.bel.grown hg h.bel.size (fun j hj => by have := hr j hj; omega)⟩
theorem Hold3.set {w a : World} {u : Value} (h : Hold3 w a u) (v : Value) : Hold3 w (a.setCell ⟨w.heap.size, 0, none⟩ v) v :=
  ⟨set1 h.h0 v, by rw [Below.heap_setCell _ _ _ _ (by simp)]; exact h.h1, by rw [Below.heap_setCell _ _ _ _ (by simp; omega)]; exact h.h2, h.bel.setCell (Nat.le_refl _) _⟩
theorem owns_setOther {w : World} {base size n p i : Nat} {e : TypeId} {v x : Value} {xs : List Value} (h : w.ownsRow base e size v n xs) (hp : p < base) : (w.setCell ⟨p, i, none⟩ x).ownsRow base e size v n xs := by
  obtain ⟨h1, ⟨rfl, rfl⟩ | ⟨g, cap, cur, rfl, hg, hb, hr⟩⟩ := h
  · exact ⟨h1, .inl ⟨rfl, rfl⟩⟩
  · exact ⟨h1, .inr ⟨g, cap, cur, rfl, hg, by rw [Below.heap_setCell _ _ _ _ (by simp; omega)]; exact hb, hr⟩⟩
theorem AllAt.skip {s : ByteArray} {w wr w2 : World} {q a : Nat} {u : Value} {W : List (Nat × Wt)} {x : Wt} (h : AllAt s w wr q a u W) (hx : wd ((sb s).drop a) = some x) (hk : x.k = 0) (hb : Below wr.heap.size wr w2) : AllAt s w w2 q (a + x.z) u W := by
  have h1 := wd_ok hx
  have h2 := h1.2.1
  rw [List.length_drop, sb_len] at h2
  have hle := h.le
  refine ⟨by omega, h.hold.below (by have := h.lo; have := h.hi; omega) hb, h.lo, Nat.lt_of_lt_of_le h.hi hb.size, by rw [hb.block _ h.hi]; exact h.bad, owns_below h.own hb, Nat.le_trans h.len (by omega), ?_⟩
  rw [h.sc, sc_cons hx, if_pos hk, List.drop_drop]
theorem AllAt.push {s : ByteArray} {w wr w2 : World} {q a : Nat} {u v : Value} {W : List (Nat × Wt)} {x : Wt} (h : AllAt s w wr q a u W) (hx : wd ((sb s).drop a) = some x) (hk : x.k ≠ 0) (hh : Hold3 w w2 u) (hq : w2.heap[q]? = some (.cells #[.int .i64 (fb (sb s) : Int)] 3 (0, 0)))
    (hown : w2.ownsRow (q + 1) 36 3 v (W.length + 1) (wcs s W ++ wval s a x)) : AllAt s w (w2.setCell ⟨w.heap.size, 0, none⟩ v) q (a + x.z) v (W ++ [(a, x)]) := by
  have h1 := wd_ok hx
  have h2 := h1.2.1
  rw [List.length_drop, sb_len] at h2
  have hle := h.le
  have hlo := h.lo
  have hqs : q < w2.heap.size := by
    rcases Nat.lt_or_ge q w2.heap.size with h3 | h3
    · exact h3
    · rw [Array.getElem?_eq_none h3] at hq; cases hq
  refine ⟨by omega, hh.set v, hlo, by simpa [World.setCell] using hqs, by rw [Below.heap_setCell _ _ _ _ (by simp; omega)]; exact hq, ?_, ?_, ?_⟩
  · have := owns_setOther (i := 0) (x := v) (p := w.heap.size) hown (by omega)
    rw [wcs_append, List.length_append]
    simpa [wcs] using this
  · have := h.len; simp; omega
  · rw [h.sc, sc_cons hx, if_neg hk, List.drop_drop]; simp
theorem rowNew3 (w : World) (a b c : Value) (t : TypeId) (B : Nat) (hB : w.heap.size = B) : Row (w.alloc (.cells #[a, b, c] t)) (.slice (some ⟨B, 0, none⟩) 1 1) 1 [a, b, c] := by
  subst hB
  have h1 := World.ownsRow_lit (e := t) (base := w.heap.size) (size := 3) w #[a, b, c] 1 (Nat.le_refl _) (by decide) (by simp)
  simpa using Row.owned h1

set_option maxHeartbeats 8000000 in
set_option maxRecDepth 1000000 in
theorem all_short (s : ByteArray) (w : World) (hl : s.size ≤ 4000) : Calls Try.prog 8 #[.string s] w (AllPost s w) := by
  have hmf : ∀ (fn : Fn) (first cap : Array Value) (w : World), (Instr.makeFunc fn first cap).run Try.prog w = .ok (.func fn first cap) w := fun _ _ _ _ => rfl
  obtain ⟨ii, hi, hz0, hz1, hz2⟩ := infoWord
  have hfl := fb_le (sb s)
  have hn4 : ¬ 4000 < (sb s).length := by rw [sb_len]; omega
  rw [sb_len] at hfl
  have hd4 : decide ((4000 : Int) < (s.size : Int)) = false := by simp; omega
  obtain ⟨W3, hW3⟩ : ∃ W3, W3 = (((w.alloc (.cells #[.slice none 0 0] 23)).alloc (.cells #[.int .i64 0] 3)).alloc (.cells #[.int .i64 0] 3)) := ⟨_, rfl⟩
  obtain ⟨g0, g1, g2, g3, g4⟩ := three w _ _ _ W3 hW3
  have HG := Lib.hid (And.intro hW3 (And.intro g0 (And.intro g1 (And.intro g2 (And.intro g3 g4)))))
  clear hW3 g0 g1 g2 g3 g4
  have HN4 := Lib.hid hn4
  clear hn4
  go_enter_defers Try.func8, Try.ntmps8
  go_wp2_with fail
  obtain ⟨hW3, g0, g1, g2, g3, g4⟩ := HG.out
  rw [← hW3]
  refine (firstBad_any s W3 (by omega)).mono ?_
  rintro e w4 ⟨rfl, hb4⟩
  have hold4 : Hold3 w w4 (.slice none 0 0) := Hold3.below ⟨g0, g1, g2, g4⟩ (by omega) hb4
  have hz4 := hb4.size
  obtain ⟨Q, hQ⟩ : ∃ Q, Q = w4.heap.size := ⟨_, rfl⟩
  have hat : AllAt s w (w4.alloc (.cells #[.int .i64 (fb (sb s) : Int)] 3)) Q 0 (.slice none 0 0) [] :=
    ⟨Nat.zero_le _, hold4.below (by omega) (bel_new (Below.refl _ _) _), by omega, by rw [hQ]; simp, by rw [hQ]; exact heap_alloc_new _ _, World.ownsRow_nil _ _ _ _, Nat.zero_le _, by simp⟩
  have HA := Lib.hid hat
  have HQ := Lib.hid hQ
  clear g0 g1 g2 g3 g4 hb4 hold4 hat hW3 hQ hz4 HG
  go_wp2_with fail
  rw [← HQ.out]
  obtain ⟨W5, hW5⟩ : ∃ W5, W5 = w4.alloc (.cells #[.int .i64 (fb (sb s) : Int)] 3) := ⟨_, rfl⟩
  rw [← hW5] at HA ⊢
  clear HQ hW5
  go_loopw [7] (fun n wr => ∃ (a : Nat) (u : Value) (W : List (Nat × Wt)), n = .int .i64 a ∧ AllAt s w wr Q a u W) (fun n _ => s.size - (intOf n).toNat)
  case atStart => exact ⟨0, _, [], rfl, HA.out⟩
  case round =>
    obtain ⟨a, u, W, rfl, hat⟩ := hrel
    obtain ⟨wo, rfl⟩ : ∃ wo : World, wo = wr := ⟨_, rfl⟩
    have HT := Lib.hid hat
    have hale := hat.le
    have hlen := hat.len
    clear hat HA
    by_cases hlt : a < s.size
    · go_wp2_with fail
      refine (word_one_any s a (fb (sb s)) Q wo (by omega) hlt HT.out.bad).mono ?_
      rintro e w1 (⟨x, hx, rfl, hb1⟩ | ⟨hx, rfl, hb1⟩)
      · have hwk := wd_ok hx
        have hzl := hwk.2.1
        rw [List.length_drop, sb_len] at hzl
        by_cases hk : x.k = 0
        · have hsk := HT.out.skip hx hk (bel_new hb1 (.cells (wval s a x).toArray 36))
          obtain ⟨k, o, n, z⟩ := x
          simp only at hk hsk hwk hzl
          subst hk
          simp only [wval, if_true] at hsk ⊢
          have HS := Lib.hid hsk
          have hz1' := hwk.1
          clear hsk hwk hx hb1
          go_wp2
          go_roundw
          case rel => exact ⟨a + z, u, W, by go_num, HS.out⟩
          case measure => simp [intOf]; omega
        · have hown1 := owns_below HT.out.own hb1
          have hq1 : w1.heap[Q]? = some (.cells #[.int .i64 (fb (sb s) : Int)] 3 (0, 0)) := by rw [hb1.block _ HT.out.hi]; exact HT.out.bad
          have hh1 := HT.out.hold.below (by have := HT.out.lo; have := HT.out.hi; omega) hb1
          have hlo := HT.out.lo
          have hqs : Q < w1.heap.size := Nat.lt_of_lt_of_le HT.out.hi hb1.size
          obtain ⟨ou, cu, rfl⟩ := owns_slice hown1
          have hpush := fun v w2 => HT.out.push (v := v) (w2 := w2) hx hk
          obtain ⟨k, o, n, z⟩ := x
          simp only at hk hpush hwk hzl
          simp only [wval, if_neg hk] at hpush ⊢
          obtain ⟨c0, z0⟩ := cell1_of hh1.h0
          have hz5 : w.heap.size < w1.heap.size := by omega
          have hz6 : w.heap.size < w1.heap.size + 1 := by omega
          have hkk : (k != 0) = true := by simpa using hk
          have hz1' := hwk.1
          have HP := Lib.hid hpush
          have H1 := Lib.hid (And.intro hh1 hq1)
          clear hpush hwk hx hb1 hq1 hh1 hk
          go_wp2_with (at_builtin; refine wpList_append_row _ rfl _ _ 23 rfl (Q + 1) 36 ii (.agg #[.int .i64 0, .string ⟨#[]⟩, .int .i64 0]) 3 32 Try.underlying23 hi hz0 hz1 hz2 rfl (by decide) (.slice ou W.length cu) W.length (wcs s W) rfl ?hown _ 1 [.int .i64 k, .string (s.extract (a + o) (a + o + n)), .int .i64 a] rfl ?hrow rfl ?hone ?h63 ?hby ?hbase ?_)
          case hown => exact (hown1.alloc _).alloc _
          case hrow => exact rowNew3 _ _ _ _ _ _ (by simp)
          case hone => simp [Value.oneCell']
          case h63 => unfold maxLen; omega
          case hby => omega
          case hbase => simp <;> omega
          intro v' w2 hown2 hgrow2
          have hr2 : ∀ j, (Value.slice ou W.length cu).ownBlock = some j → Q + 1 ≤ j := fun j hj => (hown1.lt j hj).1
          have hh2 := ((H1.out.1.below (by omega) (bel_new (bel_new (Below.refl _ _) (.cells #[.int .i64 k, .string (s.extract (a + o) (a + o + n)), .int .i64 a] 36)) (.cells #[.int .i64 k, .string (s.extract (a + o) (a + o + n)), .int .i64 a] 36)))).grown (by simp <;> omega) hgrow2 (fun j hj => by have := hr2 j hj; omega)
          have hq2 : w2.heap[Q]? = some (.cells #[.int .i64 (fb (sb s) : Int)] 3 (0, 0)) := by
            rw [hgrow2.block _ (by simp <;> omega) (fun e => by have := hr2 Q e.symm; omega), Below.heap_alloc _ _ _ (by simp <;> omega), Below.heap_alloc _ _ _ (by omega)]
            exact H1.out.2
          obtain ⟨d0, y0⟩ := cell1_of hh2.h0
          obtain ⟨o2, c2, rfl⟩ := owns_slice hown2
          have HN := Lib.hid (HP.out _ w2 hh2 hq2 hown2)
          clear hgrow2 hown2 hh2 hq2 hr2 hown1 c0 z0
          go_wp2
          go_roundw
          case rel => exact ⟨a + z, _, _, by go_num, HN.out⟩
          case measure => simp [intOf]; omega
      · have hh1 := HT.out.hold.below (by have := HT.out.lo; have := HT.out.hi; omega) hb1
        have hfail : (sc 0 (sb s)).2 = some a := by rw [HT.out.sc, sc_none (by rw [sb_drop s a hlt]; simp) hx]
        have hr := rs_none HN4.out hfail
        have hz5 : w.heap.size + 1 + 1 < w1.heap.size := by have := HT.out.lo; have := HT.out.hi; have := hb1.size; omega
        have HX := Lib.hid (And.intro hh1 (And.intro hr hz5))
        clear hfail hr hh1 hb1 hx hz5
        go_wp2
        obtain ⟨hh1, hr, hz5⟩ := HX.out
        refine leaves_cons (f := 14) (args := #[.pointer (some ⟨w.heap.size, 0, none⟩), .pointer (some ⟨w.heap.size + 1, 0, none⟩), .pointer (some ⟨w.heap.size + 1 + 1, 0, none⟩)]) (by simp) (by simp [go_sem]) ?_
        refine (wcatch_panic _ _ _ 2 (min (a : Int) (fb (sb s))) _ _ _ w1 hh1.h0 hh1.h1 hh1.h2 (by omega) (by omega) (by omega)).mono ?_
        rintro e u' w7 ⟨rfl, rfl, K0, K1, K2, hbel7⟩
        have HB7 : Below w.heap.size w w7 := hh1.bel.trans (hbel7 _ (Nat.le_refl _) (by omega) (by omega) (by omega))
        obtain ⟨c0, z0⟩ := cell1_of K0
        obtain ⟨c1, z1⟩ := cell1_of K1
        obtain ⟨c2, z2⟩ := cell1_of K2
        simp [Leaves, settle, results, Try.results8, go_sem, c0, c1, c2]
        exact all_bad hr (by rw [show ((min a (fb (sb s)) : Nat) : Int) = min (a : Int) (fb (sb s)) from by omega]) HB7
    · have han : a = s.size := by omega
      subst han
      have hd : (sb s).drop s.size = [] := by rw [List.drop_eq_nil_iff, sb_len]; omega
      have hsc := HT.out.sc
      rw [hd, sc_nil, List.append_nil] at hsc
      have hh := HT.out.hold
      obtain ⟨cq, zq⟩ := cell1_of HT.out.bad
      have hz5 : w.heap.size + 1 + 1 < wo.heap.size := by have := HT.out.lo; have := HT.out.hi; omega
      by_cases hbad : fb (sb s) < s.size
      · have hr := rs_bad HN4.out (by rw [hsc]) (by rw [sb_len]; exact hbad)
        have HX := Lib.hid (And.intro hh (And.intro hr hz5))
        have hdd : decide ((fb (sb s) : Int) < (s.size : Int)) = true := by simp; omega
        clear hr hh hsc hd hz5
        go_wp2_with fail
        refine (fail_any Q (fb (sb s)) (fb (sb s)) _ HT.out.bad).mono ?_
        rintro e w' ⟨rfl, rfl⟩
        go_wp2
        obtain ⟨hh1, hr, hz5⟩ := HX.out
        refine leaves_cons (f := 14) (args := #[.pointer (some ⟨w.heap.size, 0, none⟩), .pointer (some ⟨w.heap.size + 1, 0, none⟩), .pointer (some ⟨w.heap.size + 1 + 1, 0, none⟩)]) (by simp) (by simp [go_sem]) ?_
        refine (wcatch_panic _ _ _ 2 (fb (sb s) : Int) _ _ _ wo hh1.h0 hh1.h1 hh1.h2 (by omega) (by omega) (by omega)).mono ?_
        rintro e u' w7 ⟨rfl, rfl, K0, K1, K2, hbel7⟩
        have HB7 : Below w.heap.size w w7 := hh1.bel.trans (hbel7 _ (Nat.le_refl _) (by omega) (by omega) (by omega))
        obtain ⟨c0, z0⟩ := cell1_of K0
        obtain ⟨c1, z1⟩ := cell1_of K1
        obtain ⟨c2, z2⟩ := cell1_of K2
        simp [Leaves, settle, results, Try.results8, go_sem, c0, c1, c2]
        exact all_bad hr rfl HB7
      · have hr := rs_ok HN4.out (by rw [hsc]) (by rw [sb_len]; exact hbad)
        rw [hsc] at hr
        simp only at hr
        have hown := HT.out.own
        obtain ⟨ou, cu, rfl⟩ := owns_slice hown
        have HX := Lib.hid (And.intro hh (And.intro hr (And.intro hz5 hown)))
        have hdd : decide ((fb (sb s) : Int) < (s.size : Int)) = false := by simp; omega
        obtain ⟨c0, z0⟩ := cell1_of hh.h0
        obtain ⟨c1, z1⟩ := cell1_of hh.h1
        obtain ⟨c2, z2⟩ := cell1_of hh.h2
        clear hr hh hsc hd hz5 hown
        go_wp2
        obtain ⟨hh1, hr, hz5, hown⟩ := HX.out
        obtain ⟨W8, hW8⟩ : ∃ W8, W8 = ((wo.setCell ⟨w.heap.size, 0, none⟩ (.slice ou W.length cu)).setCell ⟨w.heap.size + 1, 0, none⟩ (.int .i64 0)).setCell ⟨w.heap.size + 1 + 1, 0, none⟩ (.int .i64 0) := ⟨_, rfl⟩
        rw [← hW8]
        have hh8 : Hold3 w W8 (.slice ou W.length cu) := by
          rw [hW8]
          refine ⟨?_, ?_, ?_, ((hh1.bel.setCell (Nat.le_refl _) _).setCell (by simp) _).setCell (by simp; omega) _⟩
          · rw [Below.heap_setCell _ _ _ _ (by simp; omega), Below.heap_setCell _ _ _ _ (by simp)]; exact set1 hh1.h0 _
          · rw [Below.heap_setCell _ _ _ _ (by simp)]; refine set1 (a := .int .i64 0) ?_ _; rw [Below.heap_setCell _ _ _ _ (by simp)]; exact hh1.h1
          · refine set1 (a := .int .i64 0) ?_ _; rw [Below.heap_setCell _ _ _ _ (by simp), Below.heap_setCell _ _ _ _ (by simp; omega)]; exact hh1.h2
        have hown8 : W8.ownsRow (Q + 1) 36 3 (.slice ou W.length cu) W.length (wcs s W) := by
          have hlo := HT.out.lo
          rw [hW8]
          exact owns_setOther (owns_setOther (owns_setOther hown (by omega)) (by omega)) (by omega)
        have hz8 : w.heap.size + 1 + 1 < W8.heap.size := by rw [hW8]; simpa [World.setCell] using hz5
        clear hW8
        refine leaves_cons (f := 14) (args := #[.pointer (some ⟨w.heap.size, 0, none⟩), .pointer (some ⟨w.heap.size + 1, 0, none⟩), .pointer (some ⟨w.heap.size + 1 + 1, 0, none⟩)]) (by simp) (by simp [go_sem]) ?_
        refine (wcatch_idle _ _ _ _).mono ?_
        rintro e u' w'' ⟨rfl, rfl, rfl⟩
        have hh9 := hh8.below hz8 (bel_new (Below.refl _ _) (.cells #[.int .i64 0, .int .i64 0] 45))
        have hown9 := owns_below hown8 (bel_new (Below.refl _ _) (.cells #[.int .i64 0, .int .i64 0] 45))
        obtain ⟨W9, hW9⟩ : ∃ W9, W9 = W8.alloc (.cells #[.int .i64 0, .int .i64 0] 45) := ⟨_, rfl⟩
        rw [← hW9] at hh9 hown9 ⊢
        clear hW9 c0 c1 c2 z0 z1 z2
        obtain ⟨c0, z0⟩ := cell1_of hh9.h0
        obtain ⟨c1, z1⟩ := cell1_of hh9.h1
        obtain ⟨c2, z2⟩ := cell1_of hh9.h2
        simp [Leaves, settle, results, Try.results8, go_sem, c0, c1, c2]
        unfold AllPost
        rw [hr]
        have hlo := HT.out.lo
        exact ⟨_, rfl, owns_base hown9 (by omega), hh9.bel⟩
theorem wordAll_any (s : ByteArray) (w : World) (hs : s.size ≤ 100000) : Calls Try.prog 8 #[.string s] w (AllPost s w) := by
  by_cases h : 4000 < s.size
  · exact all_long s w hs h
  · exact all_short s w (by omega)
end Go.Proofs.Ytkngppkchaadhaa
