/- gram: SamePat. -/
import Derived.Test.YtkmnigoikkffnaaPt
set_option linter.unusedVariables false
set_option linter.unusedSimpArgs false
namespace Go.Proofs.Ytkmnigoikkffnaa
open Go.RowKit Ru

set_option maxHeartbeats 8000000 in
set_option maxRecDepth 100000 in
theorem ptSame_eqf (n m : Nat) (oa ob : Option Addr) (pa pb : Nat) (a0 : Nat → Int) (a1o : Nat → Option Addr) (a1n a1c : Nat → Nat) (a2o : Nat → Option Addr) (a2n a2c : Nat → Nat) (a3o : Nat → Option Addr) (a3n a3c : Nat → Nat) (b0 : Nat → Int) (b1o : Nat → Option Addr) (b1n b1c : Nat → Nat) (b2o : Nat → Option Addr) (b2n b2c : Nat → Nat) (b3o : Nat → Option Addr) (b3n b3c : Nat → Nat) (St : Nat → World → Prop) (Fin : Nat → World → Prop) (w : World) (hn : n ≤ 1000000) (hm : m ≤ 1000000)
    (hea : ∀ i, n = m → i < n → ∃ b off, oa = some ⟨b, off, none⟩ ∧ ∀ w', St i w' → w'.cell? ⟨b, off + i * 4, none⟩ = some (.int .i64 (a0 i)) ∧ w'.cell? ⟨b, off + i * 4 + 1, none⟩ = some (.slice (a1o i) (a1n i) (a1c i)) ∧ w'.cell? ⟨b, off + i * 4 + 2, none⟩ = some (.slice (a2o i) (a2n i) (a2c i)) ∧ w'.cell? ⟨b, off + i * 4 + 3, none⟩ = some (.slice (a3o i) (a3n i) (a3c i)))
    (heb : ∀ i, n = m → i < n → ∃ b off, ob = some ⟨b, off, none⟩ ∧ ∀ w', St i w' → w'.cell? ⟨b, off + i * 4, none⟩ = some (.int .i64 (b0 i)) ∧ w'.cell? ⟨b, off + i * 4 + 1, none⟩ = some (.slice (b1o i) (b1n i) (b1c i)) ∧ w'.cell? ⟨b, off + i * 4 + 2, none⟩ = some (.slice (b2o i) (b2n i) (b2c i)) ∧ w'.cell? ⟨b, off + i * 4 + 3, none⟩ = some (.slice (b3o i) (b3n i) (b3c i)))
    (hf : ∀ i w' w'', n = m → i < n → St i w' → Below w'.heap.size w' w'' → Calls Try.prog 23 #[.agg #[.int .i64 (a0 i), .slice (a1o i) (a1n i) (a1c i), .slice (a2o i) (a2n i) (a2c i), .slice (a3o i) (a3n i) (a3c i)], .agg #[.int .i64 (b0 i), .slice (b1o i) (b1n i) (b1c i), .slice (b2o i) (b2n i) (b2c i), .slice (b3o i) (b3n i) (b3c i)]] w'' fun e w3 => (e = .returned (.bool true) ∧ St (i + 1) w3) ∨ (e = .returned (.bool false) ∧ Fin i w3))
    (h0 : St 0 w) :
    Calls Try.prog 53 #[.slice oa n pa, .slice ob m pb, .func (Fn.func 23) #[] #[]] w fun e w' => (n ≠ m ∧ e = .returned (.bool false) ∧ w = w') ∨ (n = m ∧ e = .returned (.bool true) ∧ St n w') ∨ (n = m ∧ ∃ i : Nat, i < n ∧ e = .returned (.bool false) ∧ Fin i w') := by
  have HEA := Lib.hid hea
  have HEB := Lib.hid heb
  have HF := Lib.hid hf
  have H0 := Lib.hid h0
  clear hea heb hf h0
  by_cases hnm : n = m
  case neg =>
    have hne : ((n : Int) == (m : Int)) = false := by simp; omega
    have hne' : ¬ (n : Int) = (m : Int) := by omega
    go_enter Try.func53, Try.ntmps53
    go_wp2_with fail
    go_ret
    exact .inl ⟨hnm, rfl, rfl⟩
  subst hnm
  go_enter Try.func53, Try.ntmps53
  go_wp2_with fail
  go_loopg [17] n (fun g i wx => ∃ k : Nat, k + g = n ∧ i = .int .i64 k ∧ St k wx)
  case atStart => exact ⟨0, by omega, rfl, H0.out⟩
  case round =>
    obtain ⟨k, hkg, rfl, hSt⟩ := hrel
    obtain ⟨wo, rfl⟩ : ∃ wo : World, wo = wr := ⟨_, rfl⟩
    cases gk with
    | zero =>
      obtain rfl : k = n := by omega
      have hd : decide ((k : Int) < (k : Int)) = false := by simp
      have HS := Lib.hid hSt
      clear hSt
      go_wp2
      go_ret
      exact .inr (.inl ⟨by first | rfl | trivial, rfl, HS.out⟩)
    | succ g =>
      have hk : k < n := by omega
      have hd : decide ((k : Int) < (n : Int)) = true := by simp; omega
      have hk1 : (0 : Int) ≤ (k : Int) := by omega
      have hk2 : (k : Int) < (n : Int) := by omega
      have hk9 : (k : Int) ≤ 1000000 := by omega
      obtain ⟨b1, f1, rfl, hcell1⟩ := HEA.out k (by first | rfl | trivial) hk
      obtain ⟨b2, f2, rfl, hcell2⟩ := HEB.out k (by first | rfl | trivial) hk
      have KK := And.intro (hcell1 wo hSt) (hcell2 wo hSt)
      have hc := fun w'' => HF.out k wo w'' (by first | rfl | trivial) hk hSt
      obtain ⟨xa0, hxa0⟩ : ∃ d, d = a0 k := ⟨_, rfl⟩
      rw [← hxa0] at KK hc
      clear hxa0
      obtain ⟨xa1o, hxa1o⟩ : ∃ d, d = a1o k := ⟨_, rfl⟩
      rw [← hxa1o] at KK hc
      clear hxa1o
      obtain ⟨xa1n, hxa1n⟩ : ∃ d, d = a1n k := ⟨_, rfl⟩
      rw [← hxa1n] at KK hc
      clear hxa1n
      obtain ⟨xa1c, hxa1c⟩ : ∃ d, d = a1c k := ⟨_, rfl⟩
      rw [← hxa1c] at KK hc
      clear hxa1c
      obtain ⟨xa2o, hxa2o⟩ : ∃ d, d = a2o k := ⟨_, rfl⟩
      rw [← hxa2o] at KK hc
      clear hxa2o
      obtain ⟨xa2n, hxa2n⟩ : ∃ d, d = a2n k := ⟨_, rfl⟩
      rw [← hxa2n] at KK hc
      clear hxa2n
      obtain ⟨xa2c, hxa2c⟩ : ∃ d, d = a2c k := ⟨_, rfl⟩
      rw [← hxa2c] at KK hc
      clear hxa2c
      obtain ⟨xa3o, hxa3o⟩ : ∃ d, d = a3o k := ⟨_, rfl⟩
      rw [← hxa3o] at KK hc
      clear hxa3o
      obtain ⟨xa3n, hxa3n⟩ : ∃ d, d = a3n k := ⟨_, rfl⟩
      rw [← hxa3n] at KK hc
      clear hxa3n
      obtain ⟨xa3c, hxa3c⟩ : ∃ d, d = a3c k := ⟨_, rfl⟩
      rw [← hxa3c] at KK hc
      clear hxa3c
      obtain ⟨xb0, hxb0⟩ : ∃ d, d = b0 k := ⟨_, rfl⟩
      rw [← hxb0] at KK hc
      clear hxb0
      obtain ⟨xb1o, hxb1o⟩ : ∃ d, d = b1o k := ⟨_, rfl⟩
      rw [← hxb1o] at KK hc
      clear hxb1o
      obtain ⟨xb1n, hxb1n⟩ : ∃ d, d = b1n k := ⟨_, rfl⟩
      rw [← hxb1n] at KK hc
      clear hxb1n
      obtain ⟨xb1c, hxb1c⟩ : ∃ d, d = b1c k := ⟨_, rfl⟩
      rw [← hxb1c] at KK hc
      clear hxb1c
      obtain ⟨xb2o, hxb2o⟩ : ∃ d, d = b2o k := ⟨_, rfl⟩
      rw [← hxb2o] at KK hc
      clear hxb2o
      obtain ⟨xb2n, hxb2n⟩ : ∃ d, d = b2n k := ⟨_, rfl⟩
      rw [← hxb2n] at KK hc
      clear hxb2n
      obtain ⟨xb2c, hxb2c⟩ : ∃ d, d = b2c k := ⟨_, rfl⟩
      rw [← hxb2c] at KK hc
      clear hxb2c
      obtain ⟨xb3o, hxb3o⟩ : ∃ d, d = b3o k := ⟨_, rfl⟩
      rw [← hxb3o] at KK hc
      clear hxb3o
      obtain ⟨xb3n, hxb3n⟩ : ∃ d, d = b3n k := ⟨_, rfl⟩
      rw [← hxb3n] at KK hc
      clear hxb3n
      obtain ⟨xb3c, hxb3c⟩ : ∃ d, d = b3c k := ⟨_, rfl⟩
      rw [← hxb3c] at KK hc
      clear hxb3c
      obtain ⟨⟨ak0, ak1, ak2, ak3⟩, bk0, bk1, bk2, bk3⟩ := KK
      have hb2 := World.block_lt_of_cell? wo _ bk0
      simp only at hb2
      have hb3 : ¬ b2 = wo.heap.size := by omega
      have HC := Lib.hid hc
      clear hcell1 hcell2 hSt hc
      go_wp2_with fail
      refine (HC.out _ (by exact bel_new (bel_new (Below.refl _ _) _) _)).mono ?_
      rintro e w2 (⟨rfl, hst⟩ | ⟨rfl, hfin⟩)
      · have HX := Lib.hid hst
        clear hst
        go_wp2
        go_roundg g
        case measure => omega
        case rel => exact ⟨k + 1, by omega, by go_num, HX.out⟩
      · have HX := Lib.hid hfin
        clear hfin
        go_wp2
        go_ret
        exact .inr (.inr ⟨by first | rfl | trivial, k, hk, rfl, HX.out⟩)

namespace PT
mutual
/-- are two trees the same -/
def same : PT → PT → Bool
  | .mk k n e l, f => decide (k = f.kind) && (decide (n = f.names) && (decide (e = f.ends) && (decide (l.length = f.parts.length) && sameL l f.parts)))
def sameL : List PT → List PT → Bool
  | [], _ => true
  | a :: l, m => match m with
    | [] => true
    | b :: m => same a b && sameL l m
end
theorem same_eq (e f : PT) : e.same f = (decide (e.kind = f.kind) && (decide (e.names = f.names) && (decide (e.ends = f.ends) && (decide (e.parts.length = f.parts.length) && sameL e.parts f.parts)))) := by cases e; rw [same]; rfl
theorem sameL_iff : ∀ (l m : List PT), sameL l m = true ↔ ∀ (i : Nat) (a b : PT), l[i]? = some a → m[i]? = some b → same a b = true := by
  intro l
  induction l with
  | nil => intro m; rw [sameL]; simp
  | cons x l ih =>
    intro m
    cases m with
    | nil => rw [sameL]; simp
    | cons y m =>
      rw [sameL, Bool.and_eq_true, ih m]
      constructor
      · rintro ⟨h1, h2⟩ i a b ha hb
        cases i with
        | zero => simp at ha hb; subst ha; subst hb; exact h1
        | succ i => exact h2 i a b (by simpa using ha) (by simpa using hb)
      · intro h
        exact ⟨h 0 x y rfl rfl, fun i a b ha hb => h (i + 1) a b (by simpa using ha) (by simpa using hb)⟩
theorem same_iff : ∀ (N : Nat) (a b : PT), a.size ≤ N → (same a b = true ↔ a = b) := by
  intro N
  induction N with
  | zero => intro a b h; have := a.size_pos; omega
  | succ N ih =>
    intro a b hs
    rw [same_eq]
    simp only [Bool.and_eq_true, decide_eq_true_eq, sameL_iff]
    constructor
    · rintro ⟨h1, h2, h5, h3, h4⟩
      cases a with
      | mk k s e l =>
        cases b with
        | mk k' s' e' l' =>
          simp only [kind, names, ends, parts] at h1 h2 h3 h4 h5
          subst h1; subst h2; subst h5
          congr 1
          refine List.ext_getElem h3 (fun i h5 h6 => ?_)
          refine (ih _ _ ?_).1 (h4 i _ _ (List.getElem?_eq_getElem h5) (List.getElem?_eq_getElem h6))
          have := size_part (e := .mk k s e l) (List.getElem?_eq_getElem h5)
          omega
    · rintro rfl
      refine ⟨rfl, rfl, rfl, rfl, fun i x y hx hy => ?_⟩
      rw [hx] at hy
      cases hy
      have := size_part hx
      exact (ih _ _ (by omega)).2 rfl
theorem same_refl (a : PT) : same a a = true := (same_iff a.size a a (Nat.le_refl _)).2 rfl
end PT
def PSameIh (w0 : World) (N : Nat) : Prop := ∀ (a b : PT) (na ea la nb eb lb : Value) (w : World), a.size ≤ N → a.Fit → b.Fit → PtIs w0 a na ea la → PtIs w0 b nb eb lb → Below w0.heap.size w0 w →
  Calls Try.prog 23 #[.agg #[.int .i64 a.kind, na, ea, la], .agg #[.int .i64 b.kind, nb, eb, lb]] w fun x w' => x = .returned (.bool (a.same b)) ∧ Below w.heap.size w w'
set_option maxHeartbeats 4000000 in
set_option maxRecDepth 100000 in
theorem psame_all (w0 : World) : ∀ N, PSameIh w0 N := by
  intro N
  induction N with
  | zero => intro a b na ea la nb eb lb w hs; have := a.size_pos; omega
  | succ N ih =>
    intro a b na ea la nb eb lb w hs hfa hfb hra hrb hb0
    obtain ⟨⟨o1, q1, rfl⟩, ⟨o3, q3, rfl⟩, -⟩ := hra.form
    obtain ⟨⟨o2, q2, rfl⟩, ⟨o4, q4, rfl⟩, -⟩ := hrb.form
    obtain ⟨p1, r1, ka, nao, nan, nac, eao, ean, eac, lao, lan, lac, rfl, halla⟩ := hra.row4
    obtain ⟨p2, r2, kb, nbo, nbn, nbc, ebo, ebn, ebc, lbo, lbn, lbc, rfl, hallb⟩ := hrb.row4
    have m1 := hfa.lens
    have m2 := hfb.lens
    have hnam := fun w' (hb : Below w.heap.size w w') => equalS_any a.names b.names (.slice o1 a.names.length q1) (.slice o2 b.names.length q2) w' (hra.names.below (bel_then hb0 hb)) (hrb.names.below (bel_then hb0 hb)) (by omega) (by omega)
    have hend := fun w' (hb : Below w.heap.size w w') => equalS_any a.ends b.ends (.slice o3 a.ends.length q3) (.slice o4 b.ends.length q4) w' (hra.ends.below (bel_then hb0 hb)) (hrb.ends.below (bel_then hb0 hb)) (by omega) (by omega)
    have hl := fun w' (hb : Below w.heap.size w w') => ptSame_eqf a.parts.length b.parts.length p1 p2 r1 r2 ka nao nan nac eao ean eac lao lan lac kb nbo nbn nbc ebo ebn ebc lbo lbn lbc
      (fun i w'' => Below w'.heap.size w' w'' ∧ ∀ j x y, j < i → a.parts[j]? = some x → b.parts[j]? = some y → x.same y = true)
      (fun i w'' => Below w'.heap.size w' w'' ∧ ∃ x y, a.parts[i]? = some x ∧ b.parts[i]? = some y ∧ x.same y = false) w' (by omega) (by omega)
      (fun i hnm hi => by
        obtain ⟨h1, h2, b1, off, h3, h4, k0, k1, k2, k3⟩ := halla i _ (List.getElem?_eq_getElem hi)
        refine ⟨b1, off, h3, fun w'' hSt => ?_⟩
        have hbb := bel_then (bel_then hb0 hb) hSt.1
        exact ⟨(hbb.cell h4).trans k0, (hbb.cell h4).trans k1, (hbb.cell h4).trans k2, (hbb.cell h4).trans k3⟩)
      (fun i hnm hi => by
        obtain ⟨h1, h2, b1, off, h3, h4, k0, k1, k2, k3⟩ := hallb i _ (List.getElem?_eq_getElem (by omega))
        refine ⟨b1, off, h3, fun w'' hSt => ?_⟩
        have hbb := bel_then (bel_then hb0 hb) hSt.1
        exact ⟨(hbb.cell h4).trans k0, (hbb.cell h4).trans k1, (hbb.cell h4).trans k2, (hbb.cell h4).trans k3⟩)
      (fun i w1 w2 hnm hi hSt hb12 => by
        have hx := List.getElem?_eq_getElem (l := a.parts) hi
        have hy := List.getElem?_eq_getElem (l := b.parts) (i := i) (by omega)
        obtain ⟨h1, h2, -⟩ := halla i _ hx
        obtain ⟨h3, h4, -⟩ := hallb i _ hy
        rw [h1, h3]
        refine (ih _ _ _ _ _ _ _ _ w2 (by have := PT.size_part hx; omega) (hfa.part hx) (hfb.part hy) h2 h4 (bel_then (bel_then (bel_then hb0 hb) hSt.1) hb12)).mono ?_
        rintro x w3 ⟨rfl, hb3⟩
        cases hs : (a.parts[i]).same (b.parts[i]) with
        | true =>
          refine .inl ⟨rfl, bel_then (bel_then hSt.1 hb12) hb3, fun j x y hj hx' hy' => ?_⟩
          rcases Nat.lt_or_ge j i with h | h
          · exact hSt.2 j x y h hx' hy'
          · obtain rfl : j = i := by omega
            rw [hx] at hx'; rw [hy] at hy'; cases hx'; cases hy'; exact hs
        | false => exact .inr ⟨rfl, bel_then (bel_then hSt.1 hb12) hb3, _, _, hx, hy, hs⟩)
      ⟨Below.refl _ _, fun j x y hj => by omega⟩
    have HN := Lib.hid hnam
    have HN2 := Lib.hid hend
    have HL := Lib.hid hl
    have HE := Lib.hid (PT.same_eq a b)
    clear hnam hend hl halla hallb hra hrb hb0 ih
    have hB1 : ∀ (x y : Obj), Below w.heap.size w ((w.alloc x).alloc y) := fun x y => bel_new (bel_new (Below.refl _ _) _) _
    by_cases k1 : a.kind = b.kind
    case neg =>
      have b1 : (a.kind == b.kind) = false := by simpa using k1
      have HX := Lib.hid (show a.same b = false by rw [HE.out, decide_eq_false k1]; rfl)
      clear k1
      go_enter Try.func23, Try.ntmps23
      go_wp2_with fail
      go_ret
      exact ⟨by rw [HX.out]; rfl, hB1 _ _⟩
    have b1 : (a.kind == b.kind) = true := by simpa using k1
    have HK := Lib.hid k1
    clear k1
    go_enter Try.func23, Try.ntmps23
    go_wp2_with fail
    refine (HN.out _ (by exact hB1 _ _)).mono ?_
    rintro x w2 ⟨rfl, hb2'⟩
    have c2 : w2.cell? ⟨w.heap.size, 2, none⟩ = some (.slice o3 a.ends.length q3) := cell_later hb2' (by simp [go_sem])
    have c3 : w2.cell? ⟨w.heap.size + 1, 2, none⟩ = some (.slice o4 b.ends.length q4) := cell_later hb2' (by simp [go_sem])
    have d2 : w2.cell? ⟨w.heap.size, 3, none⟩ = some (.slice p1 a.parts.length r1) := cell_later hb2' (by simp [go_sem])
    have d3 : w2.cell? ⟨w.heap.size + 1, 3, none⟩ = some (.slice p2 b.parts.length r2) := cell_later hb2' (by simp [go_sem])
    have hb2 : Below w.heap.size w w2 := bel_then (hB1 _ _) hb2'
    clear hb2'
    have HB2 := Lib.hid hb2
    clear hb2
    cases hs : decide (a.names = b.names) with
    | false =>
      have HX := Lib.hid (show a.same b = false by rw [HE.out, hs]; simp)
      go_wp2_with fail
      go_ret
      exact ⟨by rw [HX.out]; rfl, HB2.out⟩
    | true =>
    have HXS := Lib.hid hs
    go_wp2_with fail
    refine (HN2.out _ (by exact HB2.out)).mono ?_
    rintro x w4 ⟨rfl, hb4'⟩
    have e2 : w4.cell? ⟨w.heap.size, 3, none⟩ = some (.slice p1 a.parts.length r1) := cell_later hb4' d2
    have e3 : w4.cell? ⟨w.heap.size + 1, 3, none⟩ = some (.slice p2 b.parts.length r2) := cell_later hb4' d3
    have HB4 := Lib.hid (bel_then HB2.out hb4')
    clear hb4' c2 c3 d2 d3
    cases hs2 : decide (a.ends = b.ends) with
    | false =>
      have HX := Lib.hid (show a.same b = false by rw [HE.out, hs2]; simp)
      go_wp2_with fail
      go_ret
      exact ⟨by rw [HX.out]; rfl, HB4.out⟩
    | true =>
      have HXS2 := Lib.hid hs2
      go_wp2_with fail
      refine (HL.out _ HB4.out).mono ?_
      rintro x w3 (⟨hne, rfl, rfl⟩ | ⟨heq, rfl, hb3, hall⟩ | ⟨heq, i, hi, rfl, hb3, x, y, hx, hy, hxy⟩)
      · have HX := Lib.hid (show a.same b = false by rw [HE.out, decide_eq_false hne]; simp)
        go_wp2_with fail
        go_ret
        exact ⟨by rw [HX.out]; rfl, HB4.out⟩
      · have HX := Lib.hid (show a.same b = true by
          rw [HE.out, decide_eq_true HK.out, HXS.out, HXS2.out, decide_eq_true heq, (PT.sameL_iff a.parts b.parts).2 (fun i x y hx hy => hall i x y (List.getElem?_eq_some_iff.1 hx).1 hx hy)]
          rfl)
        have HB3 := Lib.hid (bel_then HB4.out hb3)
        clear hb3 hall heq
        go_wp2_with fail
        go_ret
        exact ⟨by rw [HX.out]; rfl, HB3.out⟩
      · have HX := Lib.hid (show a.same b = false by
          rw [HE.out]
          cases hz : PT.sameL a.parts b.parts with
          | false => simp
          | true => rw [(PT.sameL_iff a.parts b.parts).1 hz i x y hx hy] at hxy; cases hxy)
        have HB3 := Lib.hid (bel_then HB4.out hb3)
        clear hb3 hx hy hxy heq
        go_wp2_with fail
        go_ret
        exact ⟨by rw [HX.out]; rfl, HB3.out⟩
/-- gram.SamePat -/
theorem samePat_any (a b : PT) (na ea la nb eb lb : Value) (w : World) (ha : PtIs w a na ea la) (hb : PtIs w b nb eb lb) (hfa : a.Fit) (hfb : b.Fit) :
    Calls Try.prog 23 #[.agg #[.int .i64 a.kind, na, ea, la], .agg #[.int .i64 b.kind, nb, eb, lb]] w fun x w' => x = .returned (.bool (a.same b)) ∧ Below w.heap.size w w' :=
  psame_all w a.size a b _ _ _ _ _ _ w (Nat.le_refl _) hfa hfb ha hb (Below.refl _ _)
end Go.Proofs.Ytkmnigoikkffnaa
