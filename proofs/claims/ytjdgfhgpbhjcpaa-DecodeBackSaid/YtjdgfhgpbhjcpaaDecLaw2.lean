/- The walk of DecodeBack. -/
import Derived.Test.YtjdgfhgpbhjcpaaDecTold
set_option linter.unusedVariables false
set_option linter.unusedSimpArgs false
namespace Go.Proofs.Ytjdgfhgpbhjcpaa
open Go.RowKit De

namespace De
/-- runes' bytes, one behind the other -/
def puts (l : List Int) : List Int := l.flatMap put
theorem puts_u8 (l : List Int) : ∀ x ∈ puts l, 0 ≤ x ∧ x < 256 := by
  intro x hx
  simp only [puts, List.mem_flatMap] at hx
  obtain ⟨r, _, h⟩ := hx
  exact put_u8 r x h
theorem puts_len (l : List Int) : (puts l).length ≤ 4 * l.length := by
  induction l with
  | nil => simp [puts]
  | cons r l ih =>
    have h : puts (r :: l) = put r ++ puts l := by simp [puts]
    have := (put_len r).2
    rw [h, List.length_append, List.length_cons]; omega
/-- runes as items -/
def bk : Nat → List Int → List (Nat × It)
  | _, [] => []
  | a, r :: t => (a, ⟨fix r, (put r).length, false, false, false⟩) :: bk (a + (put r).length) t
theorem all_puts : ∀ (l : List Int) (a : Nat), all a (puts l) = bk a l := by
  intro l
  induction l with
  | nil => intro a; simp [puts, bk, all_nil]
  | cons r l ih =>
    intro a
    have h : puts (r :: l) = put r ++ puts l := by simp [puts]
    have hl := (put_len r).1
    have hne : put r ++ puts l ≠ [] := by intro e; rw [List.append_eq_nil_iff] at e; rw [e.1] at hl; simp at hl
    rw [h, all_cons a _ hne, one_putf]
    simp only [bk]
    rw [List.drop_left, ih]
theorem bk_len (l : List Int) (a : Nat) : (bk a l).length = l.length := by
  induction l generalizing a with
  | nil => rfl
  | cons r l ih => simp [bk, ih]
theorem bk_get (l : List Int) : ∀ (a k : Nat) (r : Int), l[k]? = some r → (bk a l)[k]? = some (a + (puts (l.take k)).length, ⟨fix r, (put r).length, false, false, false⟩) := by
  induction l with
  | nil => intro a k r h; simp at h
  | cons q l ih =>
    intro a k r h
    cases k with
    | zero => simp at h; subst h; simp [bk, puts]
    | succ k =>
      have := ih (a + (put q).length) k r (by simpa using h)
      simp only [bk, List.getElem?_cons_succ, List.take_succ_cons]
      rw [this]
      have h2 : puts (q :: l.take k) = put q ++ puts (l.take k) := by simp [puts]
      rw [h2, List.length_append, Nat.add_assoc]
theorem puts_succ (l : List Int) (k : Nat) (r : Int) (h : l[k]? = some r) : puts (l.take (k + 1)) = puts (l.take k) ++ put r := by
  rw [List.take_add_one, h]
  simp [puts]
end De

set_option maxHeartbeats 4000000 in
set_option maxRecDepth 1000000 in
theorem decodeBack_walk (l : List Int) (v : Value) (w : World) (hr : Row w v l.length (l.map (Value.int .i32))) (hrr : ∀ r ∈ l, -2147483648 ≤ r ∧ r ≤ 2147483647) :
    Calls Try.prog 5 #[v] w fun e w' => e = .returned (.bool true) ∧ Below w.heap.size w w' := by
  obtain ⟨i0, hi, hz0, hz1, hz2⟩ := infoByte
  have hmax := hr.le
  have HR := Lib.hid hr
  obtain ⟨ov, cv, rfl⟩ : ∃ o c, v = .slice o l.length c := by obtain ⟨o, c, rfl, _⟩ := hr; exact ⟨_, _, rfl⟩
  clear hr
  by_cases hlen : 60 < l.length
  · go_enter Try.func5, Try.ntmps5
    go_wp2_with (go_at_call 9; refine (told_any _).mono ?_; rintro e w1 ⟨rfl, hb1⟩)
    go_ret
    exact ⟨rfl, hb1⟩
  have hl1 : l.length ≤ 60 := by omega
  have HZ := Lib.hid hrr
  clear hlen hrr
  have hpl := puts_len l
  go_enter Try.func5, Try.ntmps5
  go_wp2_with fail
  go_loopw [3, 4] (fun u i wr => ∃ k : Nat, k ≤ l.length ∧ i = .int .i64 k ∧ wr.ownsRow w.heap.size 5 1 u (puts (l.take k)).length ((puts (l.take k)).map (Value.int .u8)) ∧ Below w.heap.size w wr)
    (fun _ i _ => l.length - (intOf i).toNat)
  case atStart => exact ⟨0, Nat.zero_le _, rfl, World.ownsRow_nil _ _ _ _, Below.refl _ _⟩
  case round =>
    obtain ⟨k, hk, rfl, hown, hbel⟩ := hrel
    obtain ⟨wo, rfl⟩ : ∃ wo : World, wo = wr := ⟨_, rfl⟩
    obtain ⟨ou, cu, rfl⟩ := owns_slice hown
    have hplk := puts_len (l.take k)
    have htk : (l.take k).length ≤ k := List.length_take_le _ _
    by_cases hkt : k < l.length
    · obtain ⟨r, hrk⟩ : ∃ r, l[k]? = some r := ⟨l[k], List.getElem?_eq_getElem hkt⟩
      have hrb := HZ.out r (List.mem_of_getElem? hrk)
      obtain ⟨b, off, rfl, hcell⟩ : ∃ b off, ov = some ⟨b, off, none⟩ ∧ wo.cell? ⟨b, off + k, none⟩ = some (.int .i32 r) := by
        obtain ⟨o, c, e, _, _, h3⟩ := HR.out.below hbel
        simp only [Value.slice.injEq, true_and] at e
        obtain ⟨rfl, rfl⟩ := e
        rcases h3 with ⟨h0, _⟩ | ⟨b, off, rfl, hb, hc⟩
        · omega
        · exact ⟨b, off, rfl, hc k _ (by rw [List.getElem?_map, hrk]; rfl)⟩
      have hps := puts_succ l k r hrk
      have hp4 := (put_len r).2
      have HO := Lib.hid (And.intro hown (And.intro hbel hps))
      clear hown hbel hps hrk
      go_wp2_with (first
        | (go_at_call 13; refine (put_any r _ hrb).mono ?_; rintro e w2 ⟨u2, rfl, hown2, hb2⟩; obtain ⟨o2, c2, rfl⟩ := owns_slice hown2; have hB2 : Below w.heap.size w w2 := HO.out.2.1.trans (hb2.mono HO.out.2.1.size); have hzz := hB2.size; have H2 := Lib.hid (And.intro (owns_below HO.out.1 hb2) (Row.owned hown2)); clear hown2 hb2)
        | (at_builtin; refine wpList_append_row _ rfl _ _ 22 rfl w.heap.size 5 i0 (.int .u8 0) 1 1 Try.underlying22 hi hz0 hz1 hz2 rfl (by decide) _ _ _ rfl H2.out.1 _ _ _ rfl H2.out.2 (by simp) (ints_one _ _) (by unfold maxLen; omega) (by omega) (by omega) ?_; intro v3 w3 hown3 hg3; have hB3 : Below w.heap.size w w3 := bel_grown hB2 hg3 (fun j hj => (H2.out.1.lt j hj).1); have H3 := Lib.hid (And.intro hown3 hB3); clear hown3 hg3 hB3 hB2))
      go_roundw
      case rel =>
        refine ⟨k + 1, by omega, by go_num, ?_, H3.out.2⟩
        rw [HO.out.2.2, List.length_append, List.map_append]
        exact H3.out.1
      case measure => simp [intOf] <;> omega
    · have hkn : k = l.length := by omega
      subst hkn
      rw [List.take_length] at hown hplk
      have hall := all_any (puts l) (.slice ou (puts l).length cu) wo (Row.owned hown) (puts_u8 l) (by omega)
      rw [all_puts] at hall
      have hbl := bk_len l 0
      have HB := Lib.hid (And.intro hbel hbl)
      have HA := Lib.hid hall
      clear hall hown hbel hplk htk
      go_wp2_with fail
      refine HA.out.mono ?_
      rintro e w1 ⟨u1, rfl, hown1, hb1⟩
      obtain ⟨o1, c1, rfl⟩ := owns_slice hown1
      have hB1 : Below w.heap.size w w1 := HB.out.1.trans (hb1.mono HB.out.1.size)
      have H1 := Lib.hid (And.intro hown1 hB1)
      rw [hbl]
      clear hown1 hb1 hB1 hbl
      go_wp2_with fail
      go_loopw [6, 7] (fun a i wr => ∃ k : Nat, k ≤ l.length ∧ i = .int .i64 k ∧ a = .int .i64 ((puts (l.take k)).length : Int) ∧ Below w.heap.size w wr ∧ Below w1.heap.size w1 wr)
        (fun _ i _ => l.length - (intOf i).toNat)
      case atStart => exact ⟨0, Nat.zero_le _, rfl, rfl, H1.out.2, Below.refl _ _⟩
      case round =>
        obtain ⟨k, hk, rfl, rfl, hbel, hbel1⟩ := hrel
        obtain ⟨wo, rfl⟩ : ∃ wo : World, wo = wr := ⟨_, rfl⟩
        have hplk := puts_len (l.take k)
        have htk : (l.take k).length ≤ k := List.length_take_le _ _
        by_cases hkt : k < l.length
        · obtain ⟨r, hrk⟩ : ∃ r, l[k]? = some r := ⟨l[k], List.getElem?_eq_getElem hkt⟩
          have hrb := HZ.out r (List.mem_of_getElem? hrk)
          obtain ⟨b, off, rfl, hblt, hcell⟩ : ∃ b off, ov = some ⟨b, off, none⟩ ∧ b < wo.heap.size ∧ wo.cell? ⟨b, off + k, none⟩ = some (.int .i32 r) := by
            obtain ⟨o, c, e, _, _, h3⟩ := HR.out.below hbel
            simp only [Value.slice.injEq, true_and] at e
            obtain ⟨rfl, rfl⟩ := e
            rcases h3 with ⟨h0, _⟩ | ⟨b, off, rfl, hb, hc⟩
            · omega
            · exact ⟨b, off, rfl, hb, hc k _ (by rw [List.getElem?_map, hrk]; rfl)⟩
          have hps := puts_succ l k r hrk
          have hp4 := (put_len r).2
          have hitem := bk_get l 0 k r hrk
          rw [Nat.zero_add] at hitem
          obtain ⟨P, hP⟩ : ∃ P : Nat, P = (puts (l.take k)).length := ⟨_, rfl⟩
          rw [← hP] at hitem hplk ⊢
          have HO := Lib.hid (And.intro hbel (And.intro hbel1 (And.intro hps (And.intro hitem hP))))
          clear hbel hbel1 hps hitem hP hrk
          have hii : (0 : Int) ≤ (k : Int) := by omega
          have hij : (k : Int) < (l.length : Int) := by omega
          by_cases hgood : 0 ≤ r ∧ r ≤ 1114111 ∧ ¬ (55296 ≤ r ∧ r ≤ 57343)
          · have hfix : fix r = r := by unfold fix; rw [if_pos hgood]
            obtain ⟨s1, s2, s3⟩ := hgood
            have g1 : decide (r < 0) = false := by simp <;> omega
            have g2 : decide (1114111 < r) = false := by simp <;> omega
            by_cases s4 : r < 55296
            · have g3 : decide (55296 ≤ r) = false := by simp <;> omega
              have hne := neqI_same r P ((P : Int) + (put r).length) false false
              have hgu := fun op x y (w : World) => guardI op x y r P ((P : Int) + (put r).length) r P ((P : Int) + (put r).length) false false false false w
              go_wp2_with (first
                | (go_at_call 13; refine (put_any r _ hrb).mono ?_; rintro e w2 ⟨u2, rfl, hown2, hb2⟩; obtain ⟨o2, c2, rfl⟩ := owns_slice hown2; have hB2 : Below w.heap.size w w2 := HO.out.1.trans (hb2.mono HO.out.1.size); have hB12 : Below w1.heap.size w1 w2 := HO.out.2.1.trans (hb2.mono HO.out.2.1.size); obtain ⟨b1, f1, k1, e1, _, a0, a1, a2, a3, a4⟩ := ((Row.owned H1.out.1).below hB12).item HO.out.2.2.2.1; simp only [Value.slice.injEq] at e1; obtain ⟨rfl, _, rfl⟩ := e1; simp only [hfix] at a0; have H2 := Lib.hid (And.intro hB2 hB12); clear hown2 hb2 hB2 hB12))
              go_roundw
              case rel =>
                refine ⟨k + 1, by omega, by go_num, int_eq ?_, H2.out.1, H2.out.2⟩
                rw [HO.out.2.2.1, List.length_append, ← HO.out.2.2.2.2]; simp
              case measure => simp [intOf] <;> omega
            · have g3 : decide (55296 ≤ r) = true := by simp <;> omega
              have g4 : decide (r ≤ 57343) = false := by simp <;> omega
              have hne := neqI_same r P ((P : Int) + (put r).length) false false
              have hgu := fun op x y (w : World) => guardI op x y r P ((P : Int) + (put r).length) r P ((P : Int) + (put r).length) false false false false w
              go_wp2_with (first
                | (go_at_call 13; refine (put_any r _ hrb).mono ?_; rintro e w2 ⟨u2, rfl, hown2, hb2⟩; obtain ⟨o2, c2, rfl⟩ := owns_slice hown2; have hB2 : Below w.heap.size w w2 := HO.out.1.trans (hb2.mono HO.out.1.size); have hB12 : Below w1.heap.size w1 w2 := HO.out.2.1.trans (hb2.mono HO.out.2.1.size); obtain ⟨b1, f1, k1, e1, _, a0, a1, a2, a3, a4⟩ := ((Row.owned H1.out.1).below hB12).item HO.out.2.2.2.1; simp only [Value.slice.injEq] at e1; obtain ⟨rfl, _, rfl⟩ := e1; simp only [hfix] at a0; have H2 := Lib.hid (And.intro hB2 hB12); clear hown2 hb2 hB2 hB12))
              go_roundw
              case rel =>
                refine ⟨k + 1, by omega, by go_num, int_eq ?_, H2.out.1, H2.out.2⟩
                rw [HO.out.2.2.1, List.length_append, ← HO.out.2.2.2.2]; simp
              case measure => simp [intOf] <;> omega
          · have hfix : fix r = 65533 := by unfold fix; rw [if_neg hgood]
            by_cases s1 : r < 0
            · have g1 : decide (r < 0) = true := by simp <;> omega
              have hne := neqI_same 65533 P ((P : Int) + (put r).length) false false
              have hgu := fun op x y (w : World) => guardI op x y 65533 P ((P : Int) + (put r).length) 65533 P ((P : Int) + (put r).length) false false false false w
              go_wp2_with (first
                | (go_at_call 13; refine (put_any r _ hrb).mono ?_; rintro e w2 ⟨u2, rfl, hown2, hb2⟩; obtain ⟨o2, c2, rfl⟩ := owns_slice hown2; have hB2 : Below w.heap.size w w2 := HO.out.1.trans (hb2.mono HO.out.1.size); have hB12 : Below w1.heap.size w1 w2 := HO.out.2.1.trans (hb2.mono HO.out.2.1.size); obtain ⟨b1, f1, k1, e1, _, a0, a1, a2, a3, a4⟩ := ((Row.owned H1.out.1).below hB12).item HO.out.2.2.2.1; simp only [Value.slice.injEq] at e1; obtain ⟨rfl, _, rfl⟩ := e1; simp only [hfix] at a0; have H2 := Lib.hid (And.intro hB2 hB12); clear hown2 hb2 hB2 hB12))
              go_roundw
              case rel =>
                refine ⟨k + 1, by omega, by go_num, int_eq ?_, H2.out.1, H2.out.2⟩
                rw [HO.out.2.2.1, List.length_append, ← HO.out.2.2.2.2]; simp
              case measure => simp [intOf] <;> omega
            have g1 : decide (r < 0) = false := by simp <;> omega
            by_cases s2 : 1114111 < r
            · have g2 : decide (1114111 < r) = true := by simp <;> omega
              have hne := neqI_same 65533 P ((P : Int) + (put r).length) false false
              have hgu := fun op x y (w : World) => guardI op x y 65533 P ((P : Int) + (put r).length) 65533 P ((P : Int) + (put r).length) false false false false w
              go_wp2_with (first
                | (go_at_call 13; refine (put_any r _ hrb).mono ?_; rintro e w2 ⟨u2, rfl, hown2, hb2⟩; obtain ⟨o2, c2, rfl⟩ := owns_slice hown2; have hB2 : Below w.heap.size w w2 := HO.out.1.trans (hb2.mono HO.out.1.size); have hB12 : Below w1.heap.size w1 w2 := HO.out.2.1.trans (hb2.mono HO.out.2.1.size); obtain ⟨b1, f1, k1, e1, _, a0, a1, a2, a3, a4⟩ := ((Row.owned H1.out.1).below hB12).item HO.out.2.2.2.1; simp only [Value.slice.injEq] at e1; obtain ⟨rfl, _, rfl⟩ := e1; simp only [hfix] at a0; have H2 := Lib.hid (And.intro hB2 hB12); clear hown2 hb2 hB2 hB12))
              go_roundw
              case rel =>
                refine ⟨k + 1, by omega, by go_num, int_eq ?_, H2.out.1, H2.out.2⟩
                rw [HO.out.2.2.1, List.length_append, ← HO.out.2.2.2.2]; simp
              case measure => simp [intOf] <;> omega
            · have g2 : decide (1114111 < r) = false := by simp <;> omega
              have g3 : decide (55296 ≤ r) = true := by simp <;> omega
              have g4 : decide (r ≤ 57343) = true := by simp <;> omega
              have hne := neqI_same 65533 P ((P : Int) + (put r).length) false false
              have hgu := fun op x y (w : World) => guardI op x y 65533 P ((P : Int) + (put r).length) 65533 P ((P : Int) + (put r).length) false false false false w
              go_wp2_with (first
                | (go_at_call 13; refine (put_any r _ hrb).mono ?_; rintro e w2 ⟨u2, rfl, hown2, hb2⟩; obtain ⟨o2, c2, rfl⟩ := owns_slice hown2; have hB2 : Below w.heap.size w w2 := HO.out.1.trans (hb2.mono HO.out.1.size); have hB12 : Below w1.heap.size w1 w2 := HO.out.2.1.trans (hb2.mono HO.out.2.1.size); obtain ⟨b1, f1, k1, e1, _, a0, a1, a2, a3, a4⟩ := ((Row.owned H1.out.1).below hB12).item HO.out.2.2.2.1; simp only [Value.slice.injEq] at e1; obtain ⟨rfl, _, rfl⟩ := e1; simp only [hfix] at a0; have H2 := Lib.hid (And.intro hB2 hB12); clear hown2 hb2 hB2 hB12))
              go_roundw
              case rel =>
                refine ⟨k + 1, by omega, by go_num, int_eq ?_, H2.out.1, H2.out.2⟩
                rw [HO.out.2.2.1, List.length_append, ← HO.out.2.2.2.2]; simp
              case measure => simp [intOf] <;> omega
        · go_wp2_with (go_at_call 9; refine (told_any _).mono ?_; rintro e w4 ⟨rfl, hb4⟩)
          go_ret
          exact ⟨rfl, hbel.trans (hb4.mono hbel.size)⟩
end Go.Proofs.Ytjdgfhgpbhjcpaa
