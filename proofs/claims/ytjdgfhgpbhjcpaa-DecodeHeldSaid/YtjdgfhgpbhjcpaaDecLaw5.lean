/- The walk of DecodeHeld. -/
import Derived.Test.YtjdgfhgpbhjcpaaDecLaw1
import Derived.Test.YtjdgfhgpbhjcpaaCutB
set_option linter.unusedVariables false
set_option linter.unusedSimpArgs false
namespace Go.Proofs.Ytjdgfhgpbhjcpaa
open Go.RowKit De

/-- a decoder, and a row of bytes that is not its own -/
structure Dq (W0 w : World) (p f : Nat) (held : List Int) (v ub : Value) (n : Nat) (xs : List Value) : Prop where
  dk : Dk W0 w p f held false v
  own : w.ownsRow W0.heap.size 5 1 ub n xs
  sep : ∀ k, v.ownBlock = some k → ub.ownBlock ≠ some k
theorem Dq.below {W0 w w' : World} {p f n : Nat} {held : List Int} {v ub : Value} {xs : List Value} (h : Dq W0 w p f held v ub n xs) (hb : Below w.heap.size w w') : Dq W0 w' p f held v ub n xs :=
  ⟨h.dk.below hb, owns_below h.own hb, h.sep⟩
def FqPost (W0 : World) (p : Nat) (A : List (Nat × It)) (R : List Int) (f' : Nat) (ub : Value) (n : Nat) (xs : List Value) (w : World) (e : Ending) (w' : World) : Prop :=
  ∃ u v', e = .returned u ∧ w'.ownsRow w.heap.size 36 5 u A.length (itsc A) ∧ Dq W0 w' p f' R v' ub n xs ∧ w.heap.size ≤ w'.heap.size
theorem fedQ_any (W0 : World) (p f n : Nat) (v x ub : Value) (xs : List Value) (held bs : List Int) (w : World) (A : List (Nat × It)) (R : List Int) (f' : Nat) (hd : Dq W0 w p f held v ub n xs)
    (hr : Row w x bs.length (bs.map (Value.int .u8))) (hu : ∀ y ∈ held ++ bs, 0 ≤ y ∧ y < 256) (hh3 : held.length ≤ 3) (hl : bs.length ≤ 100000) (hf : f ≤ 1000000)
    (hw : wh f (held ++ bs) = (A, R)) (hf' : f + ((held ++ bs).length - R.length) = f') :
    Calls Try.prog 16 #[.pointer (some ⟨p, 0, none⟩), x] w (FqPost W0 p A R f' ub n xs w) := by
  obtain ⟨bv, h1, h2, h3⟩ := hd.dk.dec
  refine (decFeed_any p bv f v x held bs w h3 h1 hr hu hh3 hl hf).mono ?_
  rw [hw]
  rintro e w' ⟨u, v', rfl, hown, hd', hfr⟩
  simp only at hd' hown
  rw [hf'] at hd'
  have hB : Below W0.heap.size W0 w' := hd.dk.bel.trans (hfr.below hd.dk.bel.size hd.dk.low (h3.low h2))
  have hlt := hd.own.lt
  refine ⟨u, v', rfl, hown, ⟨⟨⟨w.heap.size, hfr.size, hd.dk.bel.size, hd'⟩, hd.dk.low, hB⟩, ?_, fun k hk e => ?_⟩, hfr.size⟩
  · refine owns_at hd.own fun k hk => hfr.block k (hlt k hk).2 ?_ (fun e => hd.sep k e.symm hk)
    rintro rfl
    obtain ⟨_, ⟨rfl, _⟩ | ⟨g, cap, cur, rfl, _, hgh, _⟩⟩ := hd.own
    · simp [Value.ownBlock] at hk
    · simp only [Value.ownBlock, Option.some.injEq] at hk
      subst hk
      rw [h3.hh] at hgh
      simp at hgh
  · have := hd'.own.lt k hk
    have := hlt k e
    omega
theorem fedQ1_any (W0 : World) (p f n : Nat) (v ub : Value) (xs : List Value) (held : List Int) (c : Int) (w : World) (fr : Nat × Nat) (A : List (Nat × It)) (R : List Int) (f' : Nat) (hd : Dq W0 w p f held v ub n xs)
    (hu : ∀ y ∈ held ++ [c], 0 ≤ y ∧ y < 256) (hh3 : held.length ≤ 3) (hf : f ≤ 1000000) (hw : wh f (held ++ [c]) = (A, R)) (hf' : f + ((held ++ [c]).length - R.length) = f') :
    Calls Try.prog 16 #[.pointer (some ⟨p, 0, none⟩), .slice (some ⟨w.heap.size, 0, none⟩) 1 1] (w.alloc (.cells #[.int .u8 c] 5 fr)) (FqPost W0 p A R f' ub n xs w) := by
  have hb : Below w.heap.size w (w.alloc (.cells #[.int .u8 c] 5 fr)) := bel_new (Below.refl _ _) _
  refine (fedQ_any W0 p f n v _ ub xs held [c] _ A R f' (hd.below hb) (Row.mark w 5 fr [.int .u8 c] 1 rfl (by decide)) hu hh3 (by simp) hf hw hf').mono ?_
  rintro e w' ⟨u, v', rfl, hown, hd', hs⟩
  exact ⟨u, v', rfl, owns_base hown (by simp), hd', by simp at hs; omega⟩

namespace De
theorem wh_one (a : Nat) (l : List Int) (hl : l ≠ []) (h : (one l).bad = false) (hn : (one l).n = l.length) (ho : (one l).opn = false) : wh a l = ([(a, one l)], []) := by
  rw [wh_cons hl ho, hn, List.drop_length, wh_nil]
theorem one_low (c : Int) (h0 : 0 ≤ c) (h : c < 128) : one [c] = ⟨c, 1, false, false, false⟩ := by
  have hp : put c = [c] := by
    rcases put_cases c ⟨h0, by omega, by omega⟩ with ⟨_, h⟩ | ⟨h1, _⟩ | ⟨h1, _⟩ | ⟨h1, _⟩
    · exact h
    · omega
    · omega
    · omega
  have := one_put c ⟨h0, by omega, by omega⟩ []
  rw [hp] at this
  simpa using this
theorem put_whole (r : Int) (a : Nat) : wh a (put r) = ([(a, ⟨fix r, (put r).length, false, false, false⟩)], []) := by
  have h := one_putf r []
  rw [List.append_nil] at h
  have h1 := put_len r
  have hne : put r ≠ [] := by intro e; rw [e] at h1; simp at h1
  have := wh_one a (put r) hne (by rw [h]) (by rw [h]) (by rw [h])
  rw [this, h]
theorem put_part (r : Int) (a j : Nat) (h0 : 0 < j) (hj : j < (put r).length) : wh a ((put r).take j) = ([], (put r).take j) := by
  have h := one_putf r []
  rw [List.append_nil] at h
  exact wh_open (by rw [one_cut (put r) (by rw [h]) j h0 (by rw [h]; exact hj)])
end De

/-- what the loop of DecodeHeld has at its head -/
def HeldAt (w wr : World) (p : Nat) (B : List Int) (ub : Value) (k : Nat) : Prop :=
  k ≤ B.length ∧ ∃ v, Dq w wr p (if k < B.length then 1 else 1 + B.length) (if k < B.length then B.take k else []) v ub B.length (B.map (Value.int .u8))

set_option maxHeartbeats 1500000 in
set_option maxRecDepth 1000000 in
theorem decodeHeld_walk (r c : Int) (hrr : -2147483648 ≤ r ∧ r ≤ 2147483647) (hcw : (Lit.int .u8 c).wf = true) (w : World) :
    Calls Try.prog 8 #[.int .i32 r, .int .u8 c] w fun e w' => e = .returned (.bool true) ∧ Below w.heap.size w w' := by
  have hc : 0 ≤ c ∧ c < 256 := by
    simp [Lit.wf, IntKind.min, IntKind.max, IntKind.signed, IntKind.bits] at hcw
    omega
  clear hcw
  obtain ⟨B, hB⟩ : ∃ B, B = put r := ⟨_, rfl⟩
  have hBl := put_len r
  have hBu := put_u8 r
  have hpw := put_whole r 1
  have hpp := put_part r 1
  have hput := fun (w : World) => put_any r w hrr
  have href := fun (w : World) => refPut_any r w hrr
  rw [← hB] at hBl hBu hpw hpp hput href
  obtain ⟨hB1, hB4⟩ := hBl
  obtain ⟨q, hq⟩ : ∃ q, q = strOfNums B := ⟨_, rfl⟩
  rw [← hq] at href
  have hse := strEq q
  have HP := Lib.hid (And.intro hput (And.intro href (And.intro hBu (And.intro hpw (And.intro hpp hq)))))
  clear hput href hBu hpw hpp hq hB
  go_enter Try.func8, Try.ntmps8
  go_wp2_with fail
  refine (newK_any w w (Below.refl _ _)).mono ?_
  rintro e w1 ⟨p, rfl, hd1, _, hs1⟩
  have H1 := Lib.hid hd1
  clear hd1
  go_wp2_with fail
  refine (HP.out.1 w1).mono ?_
  rintro e w2 ⟨ub, rfl, hown2, hb2⟩
  have hq2 : Dq w w2 p 0 [] (.slice none 0 0) ub B.length (B.map (Value.int .u8)) := ⟨H1.out.below hb2, owns_base hown2 H1.out.bel.size, by simp [Value.ownBlock]⟩
  obtain ⟨ob, cb, rfl⟩ := owns_slice hown2
  have H2 := Lib.hid hq2
  clear hq2 hown2 hb2
  obtain ⟨c7, hc7⟩ : ∃ c7, c7 = bits BinOp.and IntKind.u8 c 127 := ⟨_, rfl⟩
  have hc8 : 0 ≤ c7 ∧ c7 < 128 := by
    rw [hc7, show bits BinOp.and IntKind.u8 c 127 = c % 128 from bits_mask .u8 8 (by decide) wraps_u8 7 (by decide) c hc.1 (by omega)]; omega
  have h1c := one_low c7 hc8.1 hc8.2
  have hw1 : wh 0 ([] ++ [c7]) = ([(0, ⟨c7, 1, false, false, false⟩)], []) := by
    rw [List.nil_append, wh_one 0 [c7] (by simp) (by rw [h1c]) (by rw [h1c]; rfl) (by rw [h1c]), h1c]
  have hfed := fedQ1_any w p 0 B.length _ _ _ [] c7 w2 (0, 0) _ _ 1 H2.out (fun y hy => by simp at hy; subst hy; omega) (by simp) (by omega) hw1 (by simp)
  have HF := Lib.hid hfed
  clear hfed hw1 h1c hc8
  go_wp2_with fail
  rw [← hc7]
  clear hc7
  refine HF.out.mono ?_
  rintro e w3 ⟨u3, v3, rfl, _, hd3, hs3⟩
  have H3 := Lib.hid hd3
  clear hd3
  go_wp2_with fail
  go_loopw [7] (fun i wr => ∃ k : Nat, i = .int .i64 k ∧ HeldAt w wr p B (.slice ob B.length cb) k) (fun i _ => B.length - (intOf i).toNat)
  case atStart =>
    refine ⟨0, rfl, ?_⟩
    unfold HeldAt
    rw [if_pos (by omega), if_pos (by omega)]
    exact ⟨Nat.zero_le _, _, H3.out⟩
  case round =>
    obtain ⟨k, rfl, hk, vd, hdq⟩ := hrel
    obtain ⟨wo, rfl⟩ : ∃ wo : World, wo = wr := ⟨_, rfl⟩
    by_cases hkt : k < B.length
    · rw [if_pos hkt, if_pos hkt] at hdq
      have hcap : B.length ≤ cb := by obtain ⟨o, c, e, h, _⟩ := Row.owned hdq.own; simp only [Value.slice.injEq, true_and] at e; obtain ⟨rfl, rfl⟩ := e; exact h
      obtain ⟨o1, c1, hst1, hsl1⟩ := cutB_m ob cb B.length (B.map (Value.int .u8)) (by simp) k (k + 1) (by omega) (by omega) hcap ((k : Int) + 1) (by omega)
      have en : k + 1 - k = 1 := by omega
      rw [en] at hst1 hsl1
      have hrow := hsl1 wo (Row.owned hdq.own)
      have hpl : ((B.drop k).take 1).length = 1 := by simp; omega
      have hpm : ((B.map (Value.int .u8)).drop k).take 1 = ((B.drop k).take 1).map (Value.int .u8) := by simp [List.map_take, List.map_drop]
      have hrow1 : Row wo (.slice o1 1 c1) ((B.drop k).take 1).length (((B.drop k).take 1).map (Value.int .u8)) := by rw [hpl, ← hpm]; exact hrow
      have htk : B.take k ++ (B.drop k).take 1 = B.take (k + 1) := by rw [List.take_add]
      have htkl : (B.take k).length = k := by simp; omega
      have hlk : decide ((k : Int) < (B.length : Int)) = true := by simp <;> omega
      by_cases hlast : k + 1 < B.length
      · have htl : (B.take (k + 1)).length = k + 1 := by simp; omega
        have hfed := fedQ_any w p 1 B.length vd (.slice o1 1 c1) _ _ (B.take k) ((B.drop k).take 1) wo [] (B.take (k + 1)) 1 hdq hrow1
          (fun y hy => HP.out.2.2.1 y (by rw [htk] at hy; exact List.mem_of_mem_take hy)) (by omega) (by omega) (by omega)
          (by rw [htk]; exact HP.out.2.2.2.2.1 (k + 1) (by omega) hlast) (by rw [htk]; omega)
        have HF := Lib.hid (And.intro hfed htl)
        have t1 : decide ((k : Int) + 1 < (B.length : Int)) = true := by simp <;> omega
        have t2 : (((k : Int) + 1) == (B.length : Int)) = false := by simp <;> omega
        clear hsl1 hrow hrow1 hfed hpl hpm htk htkl htl hdq hcap
        go_wp2_with fail
        refine HF.out.1.mono ?_
        rintro e w4 ⟨u4, v4, rfl, hown4, hd4, hs4⟩
        obtain ⟨o4, c4, rfl⟩ := owns_slice hown4
        have hd5 := hd4.dk
        have H4 := Lib.hid (And.intro hd4 hd5)
        have hl4 : ((B.take (k + 1)).length : Int) = (k : Int) + 1 := by rw [HF.out.2]; omega
        have hn4 : (((k : Int) + 1) != ((k : Int) + 1)) = false := by simp
        clear hown4 hd4 hd5 hst1
        go_wp2_with fail
        refine (heldK_any w p _ _ _ _ _ H4.out.2).mono ?_
        rintro e w' ⟨rfl, rfl⟩
        rw [hl4]
        clear hl4
        go_wp2_with fail
        go_roundw
        case rel =>
          refine ⟨k + 1, by go_num, ?_⟩
          unfold HeldAt
          rw [if_pos hlast, if_pos hlast]
          exact ⟨by omega, _, H4.out.1⟩
        case measure => simp [intOf] <;> omega
      · have hkn : k + 1 = B.length := by omega
        have hfed := fedQ_any w p 1 B.length vd (.slice o1 1 c1) _ _ (B.take k) ((B.drop k).take 1) wo [(1, ⟨fix r, B.length, false, false, false⟩)] [] (1 + B.length) hdq hrow1
          (fun y hy => HP.out.2.2.1 y (by rw [htk] at hy; exact List.mem_of_mem_take hy)) (by omega) (by omega) (by omega)
          (by rw [htk, hkn, List.take_length]; exact HP.out.2.2.2.1) (by rw [htk, hkn, List.take_length]; rfl)
        have HF := Lib.hid (And.intro hfed hkn)
        have t1 : decide ((k : Int) + 1 < (B.length : Int)) = false := by simp <;> omega
        have t2 : (((k : Int) + 1) == (B.length : Int)) = true := by simp <;> omega
        clear hsl1 hrow hrow1 hfed hpl hpm htk htkl hdq hcap
        go_wp2_with fail
        refine HF.out.1.mono ?_
        rintro e w4 ⟨u4, v4, rfl, hown4, hd4, hs4⟩
        obtain ⟨b4, f4, k4, e4, hb4, _, a1, a2, a3, _⟩ := (Row.owned hown4).item (k := 0) rfl
        subst e4
        simp only at a1 a2 a3
        have hd5 := hd4.dk
        have H4 := Lib.hid (And.intro hd4 hd5)
        clear hown4 hd4 hd5 hst1
        go_wp2_with fail
        refine (heldK_any w p _ _ _ _ _ H4.out.2).mono ?_
        rintro e w' ⟨rfl, rfl⟩
        go_wp2_with fail
        go_roundw
        case rel =>
          refine ⟨k + 1, by go_num, ?_⟩
          unfold HeldAt
          rw [if_neg (by omega), if_neg (by omega)]
          exact ⟨by omega, _, H4.out.1⟩
        case measure => simp [intOf] <;> omega
    · have hkn : k = B.length := by omega
      subst hkn
      rw [if_neg (by omega), if_neg (by omega)] at hdq
      have hlk : decide ((B.length : Int) < (B.length : Int)) = false := by simp
      have t1 : decide (1 ≤ (B.length : Int)) = true := by simp <;> omega
      have t2 : decide ((B.length : Int) ≤ 4) = true := by simp <;> omega
      have hB2 := hdq.dk.bel
      have hown := hdq.own
      clear hdq
      have hcn := fun (w' : World) (hb : Below wo.heap.size wo w') => conv_row (w := w') (o := ob) (cap := cb) (n := B.length) (bs := B) rfl (Row.owned (owns_below hown hb))
      rw [← HP.out.2.2.2.2.2] at hcn
      have HC := Lib.hid hcn
      clear hcn
      go_wp2_with fail
      have hc0 := HC.out wo.drew (Below.refl _ _).drew
      go_region_held3 (fun w' => (convert 22 9 (.slice ob B.length cb)).run Try.prog w' = .ok (.string q) w')
        (first | assumption | go_keep)
        (first
         | (go_at_call 9; refine (told_any _).mono ?_; rintro e w5 ⟨rfl, hb5⟩; have hB5 : Below wo.heap.size wo w5 := bel_then (Below.refl _ _).drew hb5; have hc5 := HC.out w5 hB5)
         | (go_at_call 14; refine (HP.out.2.1 _).mono ?_; rintro e w6 ⟨rfl, hb6⟩; have hB6 : Below wo.heap.size wo w6 := bel_then hB5 hb6; have hc6 := HC.out w6 hB6))
      all_goals (
        go_wp2
        go_ret
        exact ⟨rfl, hB2.trans (Below.mono (by assumption) hB2.size)⟩)
end Go.Proofs.Ytjdgfhgpbhjcpaa
