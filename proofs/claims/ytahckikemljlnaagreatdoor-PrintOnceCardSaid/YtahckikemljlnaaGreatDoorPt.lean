/- Patterns as trees; how a value holds one in memory; slices.Equal of strings. -/
import Derived.Test.YtahckikemljlnaaGreatDoorReMay2
set_option linter.unusedVariables false
set_option linter.unusedSimpArgs false
namespace Go.Proofs.YtahckikemljlnaaGreatDoor
open Go.RowKit Ru

set_option maxHeartbeats 8000000 in
set_option maxRecDepth 100000 in
theorem reSame_eqf (n m : Nat) (oa ob : Option Addr) (pa pb : Nat) (a0 : Nat → Int) (a1o : Nat → Option Addr) (a1n a1c : Nat → Nat) (a2o : Nat → Option Addr) (a2n a2c : Nat → Nat) (b0 : Nat → Int) (b1o : Nat → Option Addr) (b1n b1c : Nat → Nat) (b2o : Nat → Option Addr) (b2n b2c : Nat → Nat) (St : Nat → World → Prop) (Fin : Nat → World → Prop) (w : World) (hn : n ≤ 1000000) (hm : m ≤ 1000000)
    (hea : ∀ i, n = m → i < n → ∃ b off, oa = some ⟨b, off, none⟩ ∧ ∀ w', St i w' → w'.cell? ⟨b, off + i * 3, none⟩ = some (.int .i64 (a0 i)) ∧ w'.cell? ⟨b, off + i * 3 + 1, none⟩ = some (.slice (a1o i) (a1n i) (a1c i)) ∧ w'.cell? ⟨b, off + i * 3 + 2, none⟩ = some (.slice (a2o i) (a2n i) (a2c i)))
    (heb : ∀ i, n = m → i < n → ∃ b off, ob = some ⟨b, off, none⟩ ∧ ∀ w', St i w' → w'.cell? ⟨b, off + i * 3, none⟩ = some (.int .i64 (b0 i)) ∧ w'.cell? ⟨b, off + i * 3 + 1, none⟩ = some (.slice (b1o i) (b1n i) (b1c i)) ∧ w'.cell? ⟨b, off + i * 3 + 2, none⟩ = some (.slice (b2o i) (b2n i) (b2c i)))
    (hf : ∀ i w' w'', n = m → i < n → St i w' → Below w'.heap.size w' w'' → Calls Tryz.prog 27 #[.agg #[.int .i64 (a0 i), .slice (a1o i) (a1n i) (a1c i), .slice (a2o i) (a2n i) (a2c i)], .agg #[.int .i64 (b0 i), .slice (b1o i) (b1n i) (b1c i), .slice (b2o i) (b2n i) (b2c i)]] w'' fun e w3 => (e = .returned (.bool true) ∧ St (i + 1) w3) ∨ (e = .returned (.bool false) ∧ Fin i w3))
    (h0 : St 0 w) :
    Calls Tryz.prog 72 #[.slice oa n pa, .slice ob m pb, .func (Fn.func 27) #[] #[]] w fun e w' => (n ≠ m ∧ e = .returned (.bool false) ∧ w = w') ∨ (n = m ∧ e = .returned (.bool true) ∧ St n w') ∨ (n = m ∧ ∃ i : Nat, i < n ∧ e = .returned (.bool false) ∧ Fin i w') := by
  have HEA := Lib.hid hea
  have HEB := Lib.hid heb
  have HF := Lib.hid hf
  have H0 := Lib.hid h0
  clear hea heb hf h0
  by_cases hnm : n = m
  case neg =>
    have hne : ((n : Int) == (m : Int)) = false := by simp; omega
    have hne' : ¬ (n : Int) = (m : Int) := by omega
    go_enter Tryz.func72, Tryz.ntmps72
    go_wp2_with fail
    go_ret
    exact .inl ⟨hnm, rfl, rfl⟩
  subst hnm
  go_enter Tryz.func72, Tryz.ntmps72
  go_wp2_with fail
  go_loopg [17] n (fun g i wx => ∃ k : Nat, k + g = n ∧ i = .int .i64 k ∧ St k wx)
  case atStart => exact ⟨0, by omega, rfl, H0.out⟩
  case round =>
    obtain ⟨k, hkg, rfl, hSt⟩ := hrel
    obtain ⟨wo, rfl⟩ : ∃ wo : World, wo = wr := ⟨_, rfl⟩
    cases gk with
    | zero =>
      obtain rfl : k = n := by omega
      have hd : decide ((k : Int) < (k : Int)) = false := by simp
      have HS := Lib.hid hSt
      clear hSt
      go_wp2
      go_ret
      exact .inr (.inl ⟨by first | rfl | trivial, rfl, HS.out⟩)
    | succ g =>
      have hk : k < n := by omega
      have hd : decide ((k : Int) < (n : Int)) = true := by simp; omega
      have hk1 : (0 : Int) ≤ (k : Int) := by omega
      have hk2 : (k : Int) < (n : Int) := by omega
      have hk9 : (k : Int) ≤ 1000000 := by omega
      obtain ⟨b1, f1, rfl, hcell1⟩ := HEA.out k (by first | rfl | trivial) hk
      obtain ⟨b2, f2, rfl, hcell2⟩ := HEB.out k (by first | rfl | trivial) hk
      have KK := And.intro (hcell1 wo hSt) (hcell2 wo hSt)
      have hc := fun w'' => HF.out k wo w'' (by first | rfl | trivial) hk hSt
      obtain ⟨xa0, hxa0⟩ : ∃ d, d = a0 k := ⟨_, rfl⟩
      rw [← hxa0] at KK hc
      clear hxa0
      obtain ⟨xa1o, hxa1o⟩ : ∃ d, d = a1o k := ⟨_, rfl⟩
      rw [← hxa1o] at KK hc
      clear hxa1o
      obtain ⟨xa1n, hxa1n⟩ : ∃ d, d = a1n k := ⟨_, rfl⟩
      rw [← hxa1n] at KK hc
      clear hxa1n
      obtain ⟨xa1c, hxa1c⟩ : ∃ d, d = a1c k := ⟨_, rfl⟩
      rw [← hxa1c] at KK hc
      clear hxa1c
      obtain ⟨xa2o, hxa2o⟩ : ∃ d, d = a2o k := ⟨_, rfl⟩
      rw [← hxa2o] at KK hc
      clear hxa2o
      obtain ⟨xa2n, hxa2n⟩ : ∃ d, d = a2n k := ⟨_, rfl⟩
      rw [← hxa2n] at KK hc
      clear hxa2n
      obtain ⟨xa2c, hxa2c⟩ : ∃ d, d = a2c k := ⟨_, rfl⟩
      rw [← hxa2c] at KK hc
      clear hxa2c
      obtain ⟨xb0, hxb0⟩ : ∃ d, d = b0 k := ⟨_, rfl⟩
      rw [← hxb0] at KK hc
      clear hxb0
      obtain ⟨xb1o, hxb1o⟩ : ∃ d, d = b1o k := ⟨_, rfl⟩
      rw [← hxb1o] at KK hc
      clear hxb1o
      obtain ⟨xb1n, hxb1n⟩ : ∃ d, d = b1n k := ⟨_, rfl⟩
      rw [← hxb1n] at KK hc
      clear hxb1n
      obtain ⟨xb1c, hxb1c⟩ : ∃ d, d = b1c k := ⟨_, rfl⟩
      rw [← hxb1c] at KK hc
      clear hxb1c
      obtain ⟨xb2o, hxb2o⟩ : ∃ d, d = b2o k := ⟨_, rfl⟩
      rw [← hxb2o] at KK hc
      clear hxb2o
      obtain ⟨xb2n, hxb2n⟩ : ∃ d, d = b2n k := ⟨_, rfl⟩
      rw [← hxb2n] at KK hc
      clear hxb2n
      obtain ⟨xb2c, hxb2c⟩ : ∃ d, d = b2c k := ⟨_, rfl⟩
      rw [← hxb2c] at KK hc
      clear hxb2c
      obtain ⟨⟨ak0, ak1, ak2⟩, bk0, bk1, bk2⟩ := KK
      have hb2 := World.block_lt_of_cell? wo _ bk0
      simp only at hb2
      have hb3 : ¬ b2 = wo.heap.size := by omega
      have HC := Lib.hid hc
      clear hcell1 hcell2 hSt hc
      go_wp2_with fail
      refine (HC.out _ (by exact bel_new (bel_new (Below.refl _ _) _) _)).mono ?_
      rintro e w2 (⟨rfl, hst⟩ | ⟨rfl, hfin⟩)
      · have HX := Lib.hid hst
        clear hst
        go_wp2
        go_roundg g
        case measure => omega
        case rel => exact ⟨k + 1, by omega, by go_num, HX.out⟩
      · have HX := Lib.hid hfin
        clear hfin
        go_wp2
        go_ret
        exact .inr (.inr ⟨by first | rfl | trivial, k, hk, rfl, HX.out⟩)

namespace RE
mutual
def same : RE → RE → Bool
  | .mk k s l, f => decide (k = f.kind) && (decide (s = f.set) && (decide (l.length = f.parts.length) && sameL l f.parts))
def sameL : List RE → List RE → Bool
  | [], _ => true
  | a :: l, m => match m with
    | [] => true
    | b :: m => same a b && sameL l m
end
theorem same_eq (e f : RE) : e.same f = (decide (e.kind = f.kind) && (decide (e.set = f.set) && (decide (e.parts.length = f.parts.length) && sameL e.parts f.parts))) := by cases e; rw [same]; rfl
theorem sameL_iff : ∀ (l m : List RE), sameL l m = true ↔ ∀ (i : Nat) (a b : RE), l[i]? = some a → m[i]? = some b → same a b = true := by
  intro l
  induction l with
  | nil => intro m; rw [sameL]; simp
  | cons x l ih =>
    intro m
    cases m with
    | nil => rw [sameL]; simp
    | cons y m =>
      rw [sameL, Bool.and_eq_true, ih m]
      constructor
      · rintro ⟨h1, h2⟩ i a b ha hb
        cases i with
        | zero => simp at ha hb; subst ha; subst hb; exact h1
        | succ i => exact h2 i a b (by simpa using ha) (by simpa using hb)
      · intro h
        exact ⟨h 0 x y rfl rfl, fun i a b ha hb => h (i + 1) a b (by simpa using ha) (by simpa using hb)⟩
theorem same_iff : ∀ (N : Nat) (a b : RE), a.size ≤ N → (same a b = true ↔ a = b) := by
  intro N
  induction N with
  | zero => intro a b h; have := a.size_pos; omega
  | succ N ih =>
    intro a b hs
    rw [same_eq]
    simp only [Bool.and_eq_true, decide_eq_true_eq, sameL_iff]
    constructor
    · rintro ⟨h1, h2, h3, h4⟩
      cases a with
      | mk k s l =>
        cases b with
        | mk k' s' l' =>
          simp only [kind, set, parts] at h1 h2 h3 h4
          subst h1; subst h2
          congr 1
          refine List.ext_getElem h3 (fun i h5 h6 => ?_)
          refine (ih _ _ ?_).1 (h4 i _ _ (List.getElem?_eq_getElem h5) (List.getElem?_eq_getElem h6))
          have := size_part (e := .mk k s l) (List.getElem?_eq_getElem h5)
          omega
    · rintro rfl
      refine ⟨rfl, rfl, rfl, fun i x y hx hy => ?_⟩
      rw [hx] at hy
      cases hy
      have := size_part hx
      exact (ih _ _ (by omega)).2 rfl
end RE
def SameIh (w0 : World) (N : Nat) : Prop := ∀ (a b : RE) (sa la sb lb : Value) (w : World), a.size ≤ N → a.Fit → b.Fit → ReIs w0 a sa la → ReIs w0 b sb lb → Below w0.heap.size w0 w →
  Calls Tryz.prog 27 #[.agg #[.int .i64 a.kind, sa, la], .agg #[.int .i64 b.kind, sb, lb]] w fun x w' => x = .returned (.bool (a.same b)) ∧ Below w.heap.size w w'
theorem ReIs.row3 {w : World} {e : RE} {sv lv : Value} (h : ReIs w e sv lv) : ∃ (o : Option Addr) (cap : Nat) (k : Nat → Int) (so : Nat → Option Addr) (sn sc : Nat → Nat) (lo : Nat → Option Addr) (ln lc : Nat → Nat), lv = .slice o e.parts.length cap ∧
    ∀ (i : Nat) (p : RE), e.parts[i]? = some p → k i = p.kind ∧ ReIs w p (.slice (so i) (sn i) (sc i)) (.slice (lo i) (ln i) (lc i)) ∧ ∃ b off, o = some ⟨b, off, none⟩ ∧ b < w.heap.size ∧ w.cell? ⟨b, off + i * 3, none⟩ = some (.int .i64 (k i)) ∧ w.cell? ⟨b, off + i * 3 + 1, none⟩ = some (.slice (so i) (sn i) (sc i)) ∧ w.cell? ⟨b, off + i * 3 + 2, none⟩ = some (.slice (lo i) (ln i) (lc i)) := by
  obtain ⟨o, cap, c1, c2, rfl, hall⟩ := h.all
  let ao : Value → Option Addr := fun v => match v with | .slice o _ _ => o | _ => none
  let an : Value → Nat := fun v => match v with | .slice _ n _ => n | _ => 0
  let ac : Value → Nat := fun v => match v with | .slice _ _ c => c | _ => 0
  refine ⟨o, cap, fun i => (e.parts.getD i e).kind, fun i => ao (c1 i), fun i => an (c1 i), fun i => ac (c1 i), fun i => ao (c2 i), fun i => an (c2 i), fun i => ac (c2 i), rfl, fun i p hp => ?_⟩
  obtain ⟨h1, b, off, ho, hb, k0, k1, k2⟩ := hall i p hp
  have hg : e.parts.getD i e = p := by rw [List.getD, hp]; rfl
  obtain ⟨⟨x1, y1, e1⟩, ⟨x2, y2, e2⟩⟩ := h1.form
  simp only [hg]
  rw [e1, e2] at h1
  rw [e1] at k1
  rw [e2] at k2
  rw [e1, e2]
  exact ⟨by first | rfl | trivial, h1, b, off, ho, hb, k0, k1, k2⟩
set_option maxHeartbeats 4000000 in
set_option maxRecDepth 100000 in
theorem same_all (w0 : World) : ∀ N, SameIh w0 N := by
  intro N
  induction N with
  | zero => intro a b sa la sb lb w hs; have := a.size_pos; omega
  | succ N ih =>
    intro a b sa la sb lb w hs hfa hfb hra hrb hb0
    obtain ⟨⟨o1, q1, rfl⟩, -⟩ := hra.form
    obtain ⟨⟨o2, q2, rfl⟩, -⟩ := hrb.form
    obtain ⟨p1, r1, ka, sao, san, sac, lao, lan, lac, rfl, halla⟩ := hra.row3
    obtain ⟨p2, r2, kb, sbo, sbn, sbc, lbo, lbn, lbc, rfl, hallb⟩ := hrb.row3
    have m1 := hfa.sets
    have m2 := hfb.sets
    have hset := fun w' (hb : Below w.heap.size w w') => same_any a.set b.set (.slice o1 a.set.length q1) (.slice o2 b.set.length q2) w' (hra.set.below (bel_then hb0 hb)) (hrb.set.below (bel_then hb0 hb)) (by omega) (by omega)
    have hl := fun w' (hb : Below w.heap.size w w') => reSame_eqf a.parts.length b.parts.length p1 p2 r1 r2 ka sao san sac lao lan lac kb sbo sbn sbc lbo lbn lbc
      (fun i w'' => Below w'.heap.size w' w'' ∧ ∀ j x y, j < i → a.parts[j]? = some x → b.parts[j]? = some y → x.same y = true)
      (fun i w'' => Below w'.heap.size w' w'' ∧ ∃ x y, a.parts[i]? = some x ∧ b.parts[i]? = some y ∧ x.same y = false) w' (by omega) (by omega)
      (fun i hnm hi => by
        obtain ⟨h1, h2, b1, off, h3, h4, k0, k1, k2⟩ := halla i _ (List.getElem?_eq_getElem hi)
        refine ⟨b1, off, h3, fun w'' hSt => ?_⟩
        have hbb := bel_then (bel_then hb0 hb) hSt.1
        exact ⟨(hbb.cell h4).trans k0, (hbb.cell h4).trans k1, (hbb.cell h4).trans k2⟩)
      (fun i hnm hi => by
        obtain ⟨h1, h2, b1, off, h3, h4, k0, k1, k2⟩ := hallb i _ (List.getElem?_eq_getElem (by omega))
        refine ⟨b1, off, h3, fun w'' hSt => ?_⟩
        have hbb := bel_then (bel_then hb0 hb) hSt.1
        exact ⟨(hbb.cell h4).trans k0, (hbb.cell h4).trans k1, (hbb.cell h4).trans k2⟩)
      (fun i w1 w2 hnm hi hSt hb12 => by
        have hx := List.getElem?_eq_getElem (l := a.parts) hi
        have hy := List.getElem?_eq_getElem (l := b.parts) (i := i) (by omega)
        obtain ⟨h1, h2, -⟩ := halla i _ hx
        obtain ⟨h3, h4, -⟩ := hallb i _ hy
        rw [h1, h3]
        refine (ih _ _ _ _ _ _ w2 (by have := RE.size_part hx; omega) (hfa.part hx) (hfb.part hy) h2 h4 (bel_then (bel_then (bel_then hb0 hb) hSt.1) hb12)).mono ?_
        rintro x w3 ⟨rfl, hb3⟩
        cases hs : (a.parts[i]).same (b.parts[i]) with
        | true =>
          refine .inl ⟨rfl, bel_then (bel_then hSt.1 hb12) hb3, fun j x y hj hx' hy' => ?_⟩
          rcases Nat.lt_or_ge j i with h | h
          · exact hSt.2 j x y h hx' hy'
          · obtain rfl : j = i := by omega
            rw [hx] at hx'; rw [hy] at hy'; cases hx'; cases hy'; exact hs
        | false => exact .inr ⟨rfl, bel_then (bel_then hSt.1 hb12) hb3, _, _, hx, hy, hs⟩)
      ⟨Below.refl _ _, fun j x y hj => by omega⟩
    have HS := Lib.hid hset
    have HL := Lib.hid hl
    have HE := Lib.hid (RE.same_eq a b)
    clear hset hl halla hallb hra hrb hb0 ih
    have hB1 : ∀ (x y : Obj), Below w.heap.size w ((w.alloc x).alloc y) := fun x y => bel_new (bel_new (Below.refl _ _) _) _
    by_cases k1 : a.kind = b.kind
    case neg =>
      have b1 : (a.kind == b.kind) = false := by simpa using k1
      have HX := Lib.hid (show a.same b = false by rw [HE.out, decide_eq_false k1]; rfl)
      clear k1
      go_enter Tryz.func27, Tryz.ntmps27
      go_wp2_with fail
      go_ret
      exact ⟨by rw [HX.out]; rfl, hB1 _ _⟩
    have b1 : (a.kind == b.kind) = true := by simpa using k1
    have HK := Lib.hid k1
    clear k1
    go_enter Tryz.func27, Tryz.ntmps27
    go_wp2_with fail
    refine (HS.out _ (by exact hB1 _ _)).mono ?_
    rintro x w2 ⟨rfl, hb2'⟩
    have c2 : w2.cell? ⟨w.heap.size, 2, none⟩ = some (.slice p1 a.parts.length r1) := cell_later hb2' (by simp [go_sem])
    have c3 : w2.cell? ⟨w.heap.size + 1, 2, none⟩ = some (.slice p2 b.parts.length r2) := cell_later hb2' (by simp [go_sem])
    have hb2 : Below w.heap.size w w2 := bel_then (hB1 _ _) hb2'
    clear hb2'
    have HB2 := Lib.hid hb2
    clear hb2
    cases hs : decide (a.set = b.set) with
    | false =>
      have HX := Lib.hid (show a.same b = false by rw [HE.out, hs]; simp)
      go_wp2_with fail
      go_ret
      exact ⟨by rw [HX.out]; rfl, HB2.out⟩
    | true =>
      have HXS := Lib.hid hs
      go_wp2_with fail
      refine (HL.out _ HB2.out).mono ?_
      rintro x w3 (⟨hne, rfl, rfl⟩ | ⟨heq, rfl, hb3, hall⟩ | ⟨heq, i, hi, rfl, hb3, x, y, hx, hy, hxy⟩)
      · have HX := Lib.hid (show a.same b = false by rw [HE.out, decide_eq_false hne]; simp)
        go_wp2_with fail
        go_ret
        exact ⟨by rw [HX.out]; rfl, HB2.out⟩
      · have HX := Lib.hid (show a.same b = true by
          rw [HE.out, decide_eq_true HK.out, HXS.out, decide_eq_true heq, (RE.sameL_iff a.parts b.parts).2 (fun i x y hx hy => hall i x y (List.getElem?_eq_some_iff.1 hx).1 hx hy)]
          rfl)
        have HB3 := Lib.hid (bel_then HB2.out hb3)
        clear hb3 hall heq
        go_wp2_with fail
        go_ret
        exact ⟨by rw [HX.out]; rfl, HB3.out⟩
      · have HX := Lib.hid (show a.same b = false by
          rw [HE.out]
          cases hz : RE.sameL a.parts b.parts with
          | false => simp
          | true => rw [(RE.sameL_iff a.parts b.parts).1 hz i x y hx hy] at hxy; cases hxy)
        have HB3 := Lib.hid (bel_then HB2.out hb3)
        clear hb3 hx hy hxy heq
        go_wp2_with fail
        go_ret
        exact ⟨by rw [HX.out]; rfl, HB3.out⟩
theorem reSame_any (a b : RE) (sa la sb lb : Value) (w : World) (ha : ReIs w a sa la) (hb : ReIs w b sb lb) (hfa : a.Fit) (hfb : b.Fit) :
    Calls Tryz.prog 27 #[.agg #[.int .i64 a.kind, sa, la], .agg #[.int .i64 b.kind, sb, lb]] w fun x w' => x = .returned (.bool (a.same b)) ∧ Below w.heap.size w w' :=
  same_all w a.size a b _ _ _ _ w (Nat.le_refl _) hfa hfb ha hb (Below.refl _ _)
end Go.Proofs.YtahckikemljlnaaGreatDoor

namespace Go.Proofs.YtahckikemljlnaaGreatDoor
open Go.RowKit Ru

inductive PT where
  | mk (k : Int) (ns es : List ByteArray) (l : List PT)
namespace PT
def kind : PT → Int | mk k _ _ _ => k
def names : PT → List ByteArray | mk _ n _ _ => n
def ends : PT → List ByteArray | mk _ _ e _ => e
def parts : PT → List PT | mk _ _ _ l => l
mutual
def size : PT → Nat
  | mk _ _ _ l => sizes l + 1
def sizes : List PT → Nat
  | [] => 0
  | e :: l => size e + sizes l
end
theorem size_mk (k : Int) (n e : List ByteArray) (l : List PT) : (mk k n e l).size = sizes l + 1 := by rw [size]
theorem sizes_nil : sizes [] = 0 := by rw [sizes]
theorem sizes_cons (e : PT) (l : List PT) : sizes (e :: l) = e.size + sizes l := by rw [sizes]
theorem size_pos (e : PT) : 1 ≤ e.size := by cases e; rw [size_mk]; omega
theorem size_get : ∀ (l : List PT) (i : Nat) (e : PT), l[i]? = some e → e.size ≤ sizes l := by
  intro l
  induction l with
  | nil => intro i e h; simp at h
  | cons a l ih =>
    intro i e h
    rw [sizes_cons]
    cases i with
    | zero => simp at h; subst h; omega
    | succ i => have := ih i e (by simpa using h); omega
theorem size_part {e p : PT} {i : Nat} (h : e.parts[i]? = some p) : p.size < e.size := by
  cases e with
  | mk k n s l => rw [size_mk]; have := size_get l i p h; omega
inductive Fit : PT → Prop
  | mk (k : Int) (n e : List ByteArray) (l : List PT) (hn : n.length ≤ 1000) (he : e.length ≤ 1000) (hl : l.length ≤ 1000) (h : ∀ (i : Nat) (p : PT), l[i]? = some p → Fit p) : Fit (.mk k n e l)
theorem Fit.lens {e : PT} (h : Fit e) : e.names.length ≤ 1000 ∧ e.ends.length ≤ 1000 ∧ e.parts.length ≤ 1000 := by cases h; exact ⟨by assumption, by assumption, by assumption⟩
theorem Fit.part {e p : PT} {i : Nat} (h : Fit e) (hp : e.parts[i]? = some p) : Fit p := by cases h with | mk k n s l hn he hl h => exact h i p hp
end PT
def strs (l : List ByteArray) : List Value := l.map Value.string
theorem strs_get {l : List ByteArray} {i : Nat} {s : ByteArray} (h : l[i]? = some s) : (strs l)[i]? = some (.string s) := by simp only [strs, List.getElem?_map, h, Option.map_some]
theorem strs_len (l : List ByteArray) : (strs l).length = l.length := by simp [strs]
def quad (l : List (Int × Value × Value × Value)) : List Value := l.flatMap fun p => [.int .i64 p.1, p.2.1, p.2.2.1, p.2.2.2]
theorem quad_cons (p : Int × Value × Value × Value) (l : List (Int × Value × Value × Value)) : quad (p :: l) = [.int .i64 p.1, p.2.1, p.2.2.1, p.2.2.2] ++ quad l := by simp [quad]
theorem quad_get : ∀ (l : List (Int × Value × Value × Value)) (k : Nat) (p : Int × Value × Value × Value), l[k]? = some p → (quad l)[k * 4]? = some (.int .i64 p.1) ∧ (quad l)[k * 4 + 1]? = some p.2.1 ∧ (quad l)[k * 4 + 2]? = some p.2.2.1 ∧ (quad l)[k * 4 + 3]? = some p.2.2.2 := by
  intro l
  induction l with
  | nil => intro k p h; simp at h
  | cons q l ih =>
    intro k p h
    rw [quad_cons]
    cases k with
    | zero => simp at h; subst h; simp
    | succ k =>
      have := ih k p (by simpa using h)
      refine ⟨?_, ?_, ?_, ?_⟩ <;> rw [List.getElem?_append_right (by simp; omega)]
      · rw [← this.1]; congr 1; simp; omega
      · rw [← this.2.1]; congr 1; simp; omega
      · rw [← this.2.2.1]; congr 1; simp; omega
      · rw [← this.2.2.2]; congr 1; simp; omega
inductive PtIs (w : World) : PT → Value → Value → Value → Prop
  | mk (k : Int) (n e : List ByteArray) (l : List PT) (nv ev lv : Value) (ps : List (Int × Value × Value × Value)) (hns : Row w nv n.length (strs n)) (hes : Row w ev e.length (strs e)) (hl : Row w lv l.length (quad ps)) (hn : ps.length = l.length)
      (hk : ∀ (i : Nat) (c : PT) (p : Int × Value × Value × Value), l[i]? = some c → ps[i]? = some p → c.kind = p.1) (ih : ∀ (i : Nat) (c : PT) (p : Int × Value × Value × Value), l[i]? = some c → ps[i]? = some p → PtIs w c p.2.1 p.2.2.1 p.2.2.2) : PtIs w (.mk k n e l) nv ev lv
theorem PtIs.moved {w w' : World} {e : PT} {nv ev lv : Value} (h : PtIs w e nv ev lv) (hb : Below w.heap.size w w') : PtIs w' e nv ev lv := by
  induction h with
  | mk k n s l nv ev lv ps hns hes hl hn hk ih h => exact .mk k n s l nv ev lv ps (hns.below hb) (hes.below hb) (hl.below hb) hn hk (fun i e p he hp => h i e p he hp)
theorem PtIs.names {w : World} {e : PT} {nv ev lv : Value} (h : PtIs w e nv ev lv) : Row w nv e.names.length (strs e.names) := by cases h; assumption
theorem PtIs.ends {w : World} {e : PT} {nv ev lv : Value} (h : PtIs w e nv ev lv) : Row w ev e.ends.length (strs e.ends) := by cases h; assumption
theorem PtIs.form {w : World} {e : PT} {nv ev lv : Value} (h : PtIs w e nv ev lv) : (∃ o c, nv = .slice o e.names.length c) ∧ (∃ o c, ev = .slice o e.ends.length c) ∧ (∃ o c, lv = .slice o e.parts.length c) := by
  cases h with
  | mk k n s l nv ev lv ps hns hes hl hn hk ih =>
    obtain ⟨o, c, rfl, _⟩ := hns
    obtain ⟨o', c', rfl, _⟩ := hes
    obtain ⟨o'', c'', rfl, _⟩ := hl
    exact ⟨⟨o, c, rfl⟩, ⟨o', c', rfl⟩, ⟨o'', c'', rfl⟩⟩
def slO : Value → Option Addr | .slice o _ _ => o | _ => none
def slN : Value → Nat | .slice _ n _ => n | _ => 0
def slC : Value → Nat | .slice _ _ c => c | _ => 0
theorem PtIs.row4 {w : World} {e : PT} {nv ev lv : Value} (h : PtIs w e nv ev lv) : ∃ (o : Option Addr) (cap : Nat) (k : Nat → Int) (no : Nat → Option Addr) (nn nc : Nat → Nat) (eo : Nat → Option Addr) (en ec : Nat → Nat) (lo : Nat → Option Addr) (ln lc : Nat → Nat), lv = .slice o e.parts.length cap ∧
    ∀ (i : Nat) (p : PT), e.parts[i]? = some p → k i = p.kind ∧ PtIs w p (.slice (no i) (nn i) (nc i)) (.slice (eo i) (en i) (ec i)) (.slice (lo i) (ln i) (lc i)) ∧ ∃ b off, o = some ⟨b, off, none⟩ ∧ b < w.heap.size ∧
      w.cell? ⟨b, off + i * 4, none⟩ = some (.int .i64 (k i)) ∧ w.cell? ⟨b, off + i * 4 + 1, none⟩ = some (.slice (no i) (nn i) (nc i)) ∧ w.cell? ⟨b, off + i * 4 + 2, none⟩ = some (.slice (eo i) (en i) (ec i)) ∧ w.cell? ⟨b, off + i * 4 + 3, none⟩ = some (.slice (lo i) (ln i) (lc i)) := by
  cases h with
  | mk k n s l nv ev lv ps hns hes hl hn hk ih =>
    have hl2 := hl
    obtain ⟨o, cap, rfl, _⟩ := hl2
    refine ⟨o, cap, fun i => (ps.getD i (0, .nilIface, .nilIface, .nilIface)).1, fun i => slO (ps.getD i (0, .nilIface, .nilIface, .nilIface)).2.1, fun i => slN (ps.getD i (0, .nilIface, .nilIface, .nilIface)).2.1, fun i => slC (ps.getD i (0, .nilIface, .nilIface, .nilIface)).2.1,
      fun i => slO (ps.getD i (0, .nilIface, .nilIface, .nilIface)).2.2.1, fun i => slN (ps.getD i (0, .nilIface, .nilIface, .nilIface)).2.2.1, fun i => slC (ps.getD i (0, .nilIface, .nilIface, .nilIface)).2.2.1,
      fun i => slO (ps.getD i (0, .nilIface, .nilIface, .nilIface)).2.2.2, fun i => slN (ps.getD i (0, .nilIface, .nilIface, .nilIface)).2.2.2, fun i => slC (ps.getD i (0, .nilIface, .nilIface, .nilIface)).2.2.2, rfl, fun i p hp => ?_⟩
    have hi : i < l.length := (List.getElem?_eq_some_iff.1 hp).1
    obtain ⟨b, off, cap', e, hb, hc⟩ := hl.cells' (by omega)
    simp only [Value.slice.injEq, true_and] at e
    obtain ⟨rfl, rfl⟩ := e
    obtain ⟨q, hq⟩ : ∃ q, ps[i]? = some q := ⟨ps[i], List.getElem?_eq_getElem (by omega)⟩
    have hd : ps.getD i (0, .nilIface, .nilIface, .nilIface) = q := by rw [List.getD, hq]; rfl
    have g := quad_get ps i q hq
    have hpi := ih i p q hp hq
    obtain ⟨⟨x1, y1, e1⟩, ⟨x2, y2, e2⟩, ⟨x3, y3, e3⟩⟩ := hpi.form
    have g0 := hc _ _ g.1
    have g1 := hc _ _ g.2.1
    have g2 := hc _ _ g.2.2.1
    have g3 := hc _ _ g.2.2.2
    simp only [hd]
    rw [e1, e2, e3] at hpi
    rw [e1] at g1
    rw [e2] at g2
    rw [e3] at g3
    rw [e1, e2, e3]
    exact ⟨(hk i p q hp hq).symm, hpi, b, off, rfl, hb, g0, by rw [Nat.add_assoc]; exact g1, by rw [Nat.add_assoc]; exact g2, by rw [Nat.add_assoc]; exact g3⟩

theorem bytes_ne {x y : ByteArray} (h : x ≠ y) : (x.toList == y.toList) = false := by
  rw [beq_eq_false_iff_ne]
  intro e
  rw [ByteArray.toList_eq, ByteArray.toList_eq] at e
  exact h (ByteArray.ext (Array.toList_inj.1 e))
end Go.Proofs.YtahckikemljlnaaGreatDoor
