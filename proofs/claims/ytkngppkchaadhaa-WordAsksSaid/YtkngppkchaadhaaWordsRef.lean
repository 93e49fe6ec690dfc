/- goboref11.Words: the document's words of a text, and where it is wrong. -/
import Derived.Test.YtkngppkchaadhaaWordRef
import Derived.Test.YtkngppkchaadhaaDecRef3W
import Derived.Test.YtkngppkchaadhaaWordAll2
set_option linter.unusedVariables false
set_option linter.unusedSimpArgs false
namespace Go.Proofs.Ytkngppkchaadhaa
open Go.RowKit De Wd

namespace Wd
/-- where the first bad item is, from the item k on; n: there is none -/
def fbf (L : List (Nat × It)) (n k : Nat) : Nat := match (L.drop k).find? (·.2.bad) with | some p => p.1 | none => n
theorem fbf_bad {L : List (Nat × It)} {n k : Nat} {p : Nat × It} (h : L[k]? = some p) (hb : p.2.bad = true) : fbf L n k = p.1 := by
  unfold fbf
  obtain ⟨hk, rfl⟩ := List.getElem?_eq_some_iff.1 h
  rw [List.drop_eq_getElem_cons hk]; simp only [List.find?_cons, hb]
theorem fbf_ok {L : List (Nat × It)} {n k : Nat} {p : Nat × It} (h : L[k]? = some p) (hb : p.2.bad = false) : fbf L n k = fbf L n (k + 1) := by
  unfold fbf
  obtain ⟨hk, rfl⟩ := List.getElem?_eq_some_iff.1 h
  rw [List.drop_eq_getElem_cons hk]; simp only [List.find?_cons, hb]
theorem fbf_end (L : List (Nat × It)) (n : Nat) : fbf L n L.length = n := by unfold fbf; rw [List.drop_length]; rfl
theorem fbf_all (l : List Int) : fbf (all 0 l) l.length 0 = fb l := by
  unfold fbf fb
  rw [List.drop_zero]
  cases (all 0 l).find? (·.2.bad) <;> rfl
theorem sc_ge (a : Nat) (l : List Int) : ∀ b, (sc a l).2 = some b → a ≤ b := by
  refine sc_ind (P := fun a l => ∀ b, (sc a l).2 = some b → a ≤ b) ?_ ?_ ?_ a l
  · intro a b h; rw [sc_nil] at h; cases h
  · intro a l hl h b hb; rw [sc_none hl h] at hb; cases hb; exact Nat.le_refl _
  · intro a l x h ih b hb
    rw [sc_cons h] at hb
    have := ih b hb
    omega
/-- wrong at the first bad item -/
theorem rs_first {l : List Int} (hl : ¬ 4000 < l.length) (hf : fb l < l.length) (h : ∀ b, (sc 0 l).2 = some b → fb l ≤ b) : rs l = .bad 2 (fb l) := by
  unfold rs
  rw [if_neg hl]
  cases hs : (sc 0 l).2 with
  | none => simp only [if_pos hf]
  | some b => have := h b hs; simp only [Rs.bad.injEq, true_and]; omega
end Wd

def WordsPost (s : ByteArray) (w : World) (e : Ending) (w' : World) : Prop :=
  match rs (sb s) with
  | .bad c a => e = .returned (.tuple #[.slice none 0 0, .int .i64 c, .int .i64 a]) ∧ Below w.heap.size w w'
  | .ok W => ∃ u, e = .returned (.tuple #[u, .int .i64 0, .int .i64 0]) ∧ w'.ownsRow w.heap.size 55 3 u W.length (wcs s W) ∧ Below w.heap.size w w'
theorem words_bad {s : ByteArray} {w w' : World} {e : Ending} {c : Int} {a : Nat} (h : rs (sb s) = .bad c a) (he : e = .returned (.tuple #[.slice none 0 0, .int .i64 c, .int .i64 a])) (hb : Below w.heap.size w w') : WordsPost s w e w' := by
  unfold WordsPost; rw [h]; exact ⟨he, hb⟩
theorem words_ok {s : ByteArray} {w w' : World} {u : Value} {W : List (Nat × Wt)} (h : rs (sb s) = .ok W) (ho : w'.ownsRow w.heap.size 55 3 u W.length (wcs s W)) (hb : Below w.heap.size w w') : WordsPost s w (.returned (.tuple #[u, .int .i64 0, .int .i64 0])) w' := by
  unfold WordsPost; rw [h]; exact ⟨u, rfl, ho, hb⟩
theorem infoRefWord : ∃ i, Try.prog.info? 55 = some i ∧ i.zero = some (.agg #[.int .i64 0, .string ⟨#[]⟩, .int .i64 0]) ∧ i.size = 3 ∧ i.bytes = 32 := info_parts (by kernel_rfl)
/-- the loop's state: the words so far in u, the next place a -/
structure WsAt (s : ByteArray) (w wr : World) (a : Nat) (u : Value) (W : List (Nat × Wt)) : Prop where
  le : a ≤ s.size
  bel : Below w.heap.size w wr
  own : wr.ownsRow w.heap.size 55 3 u W.length (wcs s W)
  len : W.length ≤ a
  ub : a ≤ fb (sb s)
  sc : Wd.sc 0 (sb s) = (W ++ (Wd.sc a ((sb s).drop a)).1, (Wd.sc a ((sb s).drop a)).2)
theorem WsAt.skip {s : ByteArray} {w wr w2 : World} {a : Nat} {u : Value} {W : List (Nat × Wt)} {x : Wt} (h : WsAt s w wr a u W) (hx : wd ((sb s).drop a) = some x) (hk : x.k = 0) (hu : a + x.z ≤ fb (sb s)) (hb : Below wr.heap.size wr w2) : WsAt s w w2 (a + x.z) u W := by
  have h1 := wd_ok hx
  have h2 := h1.2.1
  rw [List.length_drop, sb_len] at h2
  have hle := h.le
  refine ⟨by omega, bel_then h.bel hb, owns_below h.own hb, Nat.le_trans h.len (by omega), hu, ?_⟩
  rw [h.sc, sc_cons hx, if_pos hk, List.drop_drop]
theorem WsAt.push {s : ByteArray} {w wr w2 : World} {a : Nat} {u v : Value} {W : List (Nat × Wt)} {x : Wt} (h : WsAt s w wr a u W) (hx : wd ((sb s).drop a) = some x) (hk : x.k ≠ 0) (hu : a + x.z ≤ fb (sb s)) (hb : Below w.heap.size w w2)
    (hown : w2.ownsRow w.heap.size 55 3 v (W.length + 1) (wcs s W ++ wval s a x)) : WsAt s w w2 (a + x.z) v (W ++ [(a, x)]) := by
  have h1 := wd_ok hx
  have h2 := h1.2.1
  rw [List.length_drop, sb_len] at h2
  have hle := h.le
  refine ⟨by omega, hb, ?_, ?_, hu, ?_⟩
  · rw [wcs_append, List.length_append]
    simpa [wcs] using hown
  · have := h.len; simp; omega
  · rw [h.sc, sc_cons hx, if_neg hk, List.drop_drop]; simp

set_option maxHeartbeats 8000000 in
set_option maxRecDepth 1000000 in
theorem refWords_any (s : ByteArray) (w : World) (hs : s.size ≤ 100000) : Calls Try.prog 9 #[.string s] w (WordsPost s w) := by
  by_cases h4 : 4000 < s.size
  · have hr : rs (sb s) = .bad 6 0 := by unfold rs; rw [if_pos (by rw [sb_len]; exact h4)]
    have hd : decide ((4000 : Int) < (s.size : Int)) = true := by simp; omega
    have HR := Lib.hid hr
    clear hr
    go_enter Try.func9, Try.ntmps9
    go_wp2
    exact bodyPost_ret (v := .tuple #[.slice none 0 0, .int .i64 6, .int .i64 0]) (by simp [results, Try.results9, go_sem]; try rfl) rfl (words_bad HR.out rfl (Below.refl _ _))
  have hn4 : ¬ 4000 < (sb s).length := by rw [sb_len]; omega
  have hfl := fb_le (sb s)
  rw [sb_len] at hfl
  have hd : decide ((4000 : Int) < (s.size : Int)) = false := by simp; omega
  have hall := fun w => refAll_any s w hs
  have hlen := all_len 0 (sb s)
  have hfa := fbf_all (sb s)
  rw [sb_len] at hlen hfa
  obtain ⟨L, hL⟩ : ∃ L, L = all 0 (sb s) := ⟨_, rfl⟩
  rw [← hL] at hall hlen hfa
  have HALL := Lib.hid hall
  have HFA := Lib.hid hfa
  have HN4 := Lib.hid hn4
  clear hall hfa hn4 hL
  go_enter Try.func9, Try.ntmps9
  go_wp2_with fail
  refine (HALL.out _).mono ?_
  rintro e w1 ⟨v, rfl, hown, hb1⟩
  obtain ⟨ov, cv, rfl⟩ := owns_slice hown
  have HO := Lib.hid (And.intro (Row.owned hown) hb1)
  clear hown hb1
  go_wp2_with fail
  go_loopw [6, 7] (fun b n wr => ∃ z : Int, n = .int .i64 z ∧ -1 ≤ z ∧ z < L.length ∧ b = .int .i64 (fbf L s.size (z + 1).toNat) ∧ wr = w1) (fun b n _ => (intOf n + 1).toNat)
  case atStart =>
    refine ⟨(L.length : Int) - 1, by go_num, by omega, by omega, ?_, rfl⟩
    rw [show ((L.length : Int) - 1 + 1).toNat = L.length by omega, fbf_end]
  case round =>
    obtain ⟨z, rfl, hz1, hz2, rfl, ew⟩ := hrel
    have ew2 := ew.symm
    subst ew2
    clear ew
    by_cases hz : 0 ≤ z
    · obtain ⟨k, rfl⟩ : ∃ k : Nat, z = (k : Int) := ⟨z.toNat, by omega⟩
      have hk : k < L.length := by omega
      obtain ⟨p, hp⟩ : ∃ p, L[k]? = some p := ⟨L[k], List.getElem?_eq_getElem hk⟩
      obtain ⟨b, off, cap, e, hbb, a0, a1, a2, a3, a4⟩ := HO.out.1.item hp
      simp only [Value.slice.injEq, true_and] at e
      obtain ⟨rfl, rfl⟩ := e
      have hdz : decide ((0 : Int) ≤ (k : Int)) = true := by simp
      have hi1 : (0 : Int) ≤ (k : Int) := by omega
      have hi2 : (k : Int) < (L.length : Int) := by omega
      have hk9 : (k : Int) ≤ 100000 := by omega
      cases hbad : p.2.bad with
      | true =>
        have hfb := fbf_bad (n := s.size) hp hbad
        rw [hbad] at a3
        have HF := Lib.hid hfb
        clear hfb hp hbad
        go_wp2
        go_roundw
        case rel => exact ⟨(k : Int) - 1, by go_num, by omega, by omega, by rw [show ((k : Int) - 1 + 1).toNat = k by omega, HF.out], by first | rfl | trivial⟩
        case measure => simp [intOf] <;> omega
      | false =>
        have hfb := fbf_ok (n := s.size) hp hbad
        rw [hbad] at a3
        have HF := Lib.hid hfb
        clear hfb hp hbad
        go_wp2
        go_roundw
        case rel => exact ⟨(k : Int) - 1, by go_num, by omega, by omega, by rw [show ((k : Int) - 1 + 1).toNat = k by omega, HF.out, show ((k : Int) + 1).toNat = k + 1 by omega], by first | rfl | trivial⟩
        case measure => simp [intOf] <;> omega
    · obtain rfl : z = -1 := by omega
      have hdz : decide ((0 : Int) ≤ (-1 : Int)) = false := by decide
      have h0 : fbf L s.size ((-1 : Int) + 1).toNat = fb (sb s) := by rw [show ((-1 : Int) + 1).toNat = 0 by omega]; exact HFA.out
      rw [h0]
      obtain ⟨ii, hi, hz0, hzz1, hzz2⟩ := infoRefWord
      have hat : WsAt s w w1 0 (.slice none 0 0) [] := ⟨Nat.zero_le _, HO.out.2, World.ownsRow_nil _ _ _ _, Nat.zero_le _, Nat.zero_le _, by simp⟩
      have HA := Lib.hid hat
      clear hat h0 hz hz1 hz2
      go_wp2_with fail
      go_loopw [8, 9] (fun u n wr => ∃ (a : Nat) (W : List (Nat × Wt)), n = .int .i64 a ∧ WsAt s w wr a u W) (fun u n _ => s.size - (intOf n).toNat)
      case atStart => exact ⟨0, [], rfl, HA.out⟩
      case round =>
        obtain ⟨a, W, rfl, hat⟩ := hrel
        obtain ⟨wo, rfl⟩ : ∃ wo : World, wo = wr := ⟨_, rfl⟩
        have HT := Lib.hid hat
        have hale := hat.le
        have hlen9 := hat.len
        have hub := hat.ub
        obtain ⟨ou, cu, rfl⟩ := owns_slice hat.own
        clear hat HA
        by_cases hlt : a < s.size
        · have hd1 : decide ((a : Int) < (s.size : Int)) = true := by simp; omega
          by_cases hge : fb (sb s) ≤ a
          · have hd2 : decide ((fb (sb s) : Int) ≤ (a : Int)) = true := by simp; omega
            have hr := rs_first HN4.out (by rw [sb_len]; omega) (fun b hb => by rw [HT.out.sc] at hb; have := sc_ge _ _ b hb; omega)
            have HR := Lib.hid hr
            clear hr
            go_wp2
            exact bodyPost_ret (v := .tuple #[.slice none 0 0, .int .i64 2, .int .i64 (fb (sb s))]) (by simp [results, Try.results9, go_sem]; try rfl) rfl (words_bad HR.out rfl HT.out.bel)
          · have hd2 : decide ((fb (sb s) : Int) ≤ (a : Int)) = false := by simp; omega
            go_wp2_with fail
            refine (refWord_any s a _ hs hlt).mono ?_
            rintro e w2 (⟨x, hx, rfl, hb2⟩ | ⟨hx, rfl, hb2⟩)
            · have hwk := wd_ok hx
              have hzl := hwk.2.1
              rw [List.length_drop, sb_len] at hzl
              have hn0 : ((x.z : Int) == 0) = false := by simp; omega
              by_cases hov : fb (sb s) < a + x.z
              · have hd3 : decide ((fb (sb s) : Int) < (a : Int) + (x.z : Int)) = true := by simp; omega
                have hr := rs_first HN4.out (by rw [sb_len]; omega) (fun b hb => by rw [HT.out.sc, sc_cons hx] at hb; have := sc_ge _ _ b hb; omega)
                have HR := Lib.hid hr
                have hbe := bel_then HT.out.bel hb2
                obtain ⟨k, o, n, zz⟩ := x
                simp only [wval] at hn0 hd3 hzl ⊢
                clear hr hx hwk hov
                go_wp2
                all_goals exact bodyPost_ret (v := .tuple #[.slice none 0 0, .int .i64 2, .int .i64 (fb (sb s))]) (by simp [results, Try.results9, go_sem]; try rfl) rfl (words_bad HR.out rfl (by first | exact bel_new hbe _ | exact hbe | exact (((bel_new hbe _).setCell hbe.size _).setCell hbe.size _).setCell hbe.size _))
              · have hd3 : decide ((fb (sb s) : Int) < (a : Int) + (x.z : Int)) = false := by simp; omega
                have hub2 : a + x.z ≤ fb (sb s) := by omega
                by_cases hk : x.k = 0
                · have hsk := fun w3 hb => HT.out.skip (w2 := w3) hx hk hub2 hb
                  obtain ⟨k, o, n, zz⟩ := x
                  simp only at hk hsk hwk hzl hn0 hd3
                  subst hk
                  simp only [wval, if_true] at hsk ⊢
                  have hz1' := hwk.1
                  have HS := Lib.hid (And.intro hsk hb2)
                  clear hsk hwk hx hb2
                  go_wp2
                  go_roundw
                  case rel => exact ⟨a + zz, W, by go_num, HS.out.1 _ (by first | exact bel_new HS.out.2 _ | exact HS.out.2 | exact (((bel_new HS.out.2 _).setCell HS.out.2.size _).setCell HS.out.2.size _).setCell HS.out.2.size _)⟩
                  case measure => simp [intOf]; omega
                · have hpush := fun v w3 => HT.out.push (v := v) (w2 := w3) hx hk hub2
                  have hown1 := owns_below HT.out.own hb2
                  have hbe := bel_then HT.out.bel hb2
                  obtain ⟨k, o, n, zz⟩ := x
                  simp only at hk hpush hwk hzl hn0 hd3
                  simp only [wval, if_neg hk] at hpush ⊢
                  have hk0 := hwk.2.2.1
                  have hkk : decide ((0 : Int) < k) = true := by simp; omega
                  have hz1' := hwk.1
                  have HP := Lib.hid hpush
                  have HB := Lib.hid hbe
                  clear hpush hwk hx hb2 hk hbe
                  go_wp2_with (at_builtin; refine wpList_append_row _ rfl _ _ 26 rfl w.heap.size 55 ii (.agg #[.int .i64 0, .string ⟨#[]⟩, .int .i64 0]) 3 32 Try.underlying26 hi hz0 hzz1 hzz2 rfl (by decide) (.slice ou W.length cu) W.length (wcs s W) rfl ?hown _ 1 [.int .i64 k, .string (s.extract (a + o) (a + o + n)), .int .i64 a] rfl ?hrow rfl ?hone ?h63 ?hby ?hbase ?_)
                  case hown => exact (hown1.alloc _).alloc _
                  case hrow => exact rowNew3 _ _ _ _ _ _ (by simp)
                  case hone => simp [Value.oneCell']
                  case h63 => unfold maxLen; omega
                  case hby => omega
                  case hbase => have := HB.out.size; simp <;> omega
                  intro v' w3 hown2 hgrow2
                  have hbz := bel_grown (bel_new (bel_new HB.out (.cells #[.int .i64 k, .string (s.extract (a + o) (a + o + n)), .int .i64 a] 55)) (.cells #[.int .i64 k, .string (s.extract (a + o) (a + o + n)), .int .i64 a] 55)) hgrow2 (fun j hj => (hown1.lt j hj).1)
                  obtain ⟨o2, c2, rfl⟩ := owns_slice hown2
                  have HN := Lib.hid (HP.out _ w3 hbz hown2)
                  clear hgrow2 hown2 hown1 hbz
                  go_wp2
                  go_roundw
                  case rel => exact ⟨a + zz, _, by go_num, HN.out⟩
                  case measure => simp [intOf]; omega
            · have hr := rs_none HN4.out (by rw [HT.out.sc, sc_none (by rw [sb_drop s a hlt]; simp) hx])
              rw [show min a (fb (sb s)) = a by omega] at hr
              have HR := Lib.hid hr
              have hbe := bel_then HT.out.bel hb2
              clear hr hx
              go_wp2
              exact bodyPost_ret (v := .tuple #[.slice none 0 0, .int .i64 2, .int .i64 a]) (by simp [results, Try.results9, go_sem]; try rfl) rfl (words_bad HR.out rfl (by first | exact bel_new hbe _ | exact hbe | exact (((bel_new hbe _).setCell hbe.size _).setCell hbe.size _).setCell hbe.size _))
        · have han : a = s.size := by omega
          subst han
          have hd1 : decide ((s.size : Int) < (s.size : Int)) = false := by simp
          have hd : (sb s).drop s.size = [] := by rw [List.drop_eq_nil_iff, sb_len]; omega
          have hsc := HT.out.sc
          rw [hd, sc_nil, List.append_nil] at hsc
          have hr := rs_ok HN4.out (by rw [hsc]) (by rw [sb_len]; omega)
          rw [hsc] at hr
          have HR := Lib.hid hr
          clear hr hsc hd
          go_wp2
          exact bodyPost_ret (v := .tuple #[.slice ou W.length cu, .int .i64 0, .int .i64 0]) (by simp [results, Try.results9, go_sem]; try rfl) rfl (words_ok HR.out HT.out.own HT.out.bel)
end Go.Proofs.Ytkngppkchaadhaa
