/- What nfa.part makes of an expression: plain mathematics. -/
import Derived.Test.YtmgfpcblbbpahaaGreatNfVal
import Derived.Test.YtmgfpcblbbpahaaGreatAppF
import Derived.Deep.LoopGhost
import Derived.Deep.RegionHeld3
import Derived.Deep.RegionLaw
import Derived.Test.YtmgfpcblbbpahaaGreatGRefE
set_option linter.unusedVariables false
set_option linter.unusedSimpArgs false
namespace Go.Proofs.YtmgfpcblbbpahaaGreat
open Go.RowKit

def inF (vs : List Value) (fb : Nat) (k : Nat) : Prop := k = fb ∨ ∃ i, i < vs.length ∧ (vs.getD i undef).ownBlock = some k
structure Fol (w : World) (B fb : Nat) (vs : List Value) (F : List (List Int)) : Prop where
  len : vs.length = F.length
  tab : w.heap[fb]? = some (.cells vs.toArray 23 (0, 0))
  own : ∀ i, i < F.length → w.ownsRow B 3 1 (vs.getD i undef) (F.getD i []).length (ints1 (F.getD i []))
  apart : ∀ i j k, i < F.length → j < F.length → (vs.getD i undef).ownBlock = some k → (vs.getD j undef).ownBlock = some k → i = j
  above : B ≤ fb
  few : F.length ≤ 4000
section
variable {w w' : World} {B fb : Nat} {vs : List Value} {F : List (List Int)}
theorem Fol.lt (h : Fol w B fb vs F) : fb < w.heap.size := (Array.getElem?_eq_some_iff.1 h.tab).1
theorem Fol.ne (h : Fol w B fb vs F) {i k : Nat} (hi : i < F.length) (hk : (vs.getD i undef).ownBlock = some k) : k ≠ fb ∧ k < w.heap.size ∧ B ≤ k := by
  rcases (h.own i hi).2 with ⟨h0, _⟩ | ⟨g, cap, cur, hv, hb, hg, _⟩
  · rw [h0] at hk; simp [Value.ownBlock] at hk
  · rw [hv] at hk
    simp [Value.ownBlock] at hk
    subst hk
    refine ⟨fun e => ?_, (Array.getElem?_eq_some_iff.1 hg).1, hb⟩
    subst e
    have := h.tab.symm.trans hg
    simp at this
theorem Fol.ag (h : Fol w B fb vs F) (k : Ag (inF vs fb) w w') : Fol w' B fb vs F :=
  ⟨h.len, by rw [k.block fb h.lt (.inl rfl)]; exact h.tab, fun i hi => owns_ag (h.own i hi) k (fun j hj => .inr ⟨i, by rw [h.len]; exact hi, hj⟩), h.apart, h.above, h.few⟩
theorem Fol.moved (h : Fol w B fb vs F) (hb : Below w.heap.size w w') : Fol w' B fb vs F := h.ag (.of hb)
theorem Fol.cell (h : Fol w B fb vs F) {i : Nat} (hi : i < F.length) : w.cell? ⟨fb, i, none⟩ = some (vs.getD i undef) ∧ w.frozen? ⟨fb, i, none⟩ = false := by
  have hl := h.len
  refine ⟨?_, by simp [World.frozen?, h.tab]⟩
  simp only [World.cell?, h.tab]
  simp [List.getD, List.getElem?_eq_getElem (show i < vs.length by omega)]
theorem Fol.put {w1 : World} (h : Fol w B fb vs F) {i : Nat} (hi : i < F.length) {v' : Value} {r : List Int} (hown : w1.ownsRow B 3 1 v' r.length (ints1 r)) (hg : w.grownBy w1 (vs.getD i undef).ownBlock)
    (hp : ∀ k, v'.ownBlock = some k → (vs.getD i undef).ownBlock = some k ∨ w.heap.size ≤ k) :
    Fol (w1.setCell ⟨fb, i, none⟩ v') B fb (vs.set i v') (F.set i r) ∧ Ag (fun k => ¬ inF vs fb k) w (w1.setCell ⟨fb, i, none⟩ v') ∧ (∀ k, inF (vs.set i v') fb k → inF vs fb k ∨ w.heap.size ≤ k) := by
  have hl := h.len
  have hlt := h.lt
  have hget : ∀ j, j < F.length → (vs.set i v').getD j undef = if i = j then v' else vs.getD j undef := fun j hj => by
    rw [List.getD_eq_getElem?_getD, List.getElem?_set]
    by_cases e : i = j
    · subst e; simp [show i < vs.length by omega]
    · simp [e]
  have hgetF : ∀ j, j < F.length → (F.set i r).getD j [] = if i = j then r else F.getD j [] := fun j hj => by
    rw [List.getD_eq_getElem?_getD, List.getElem?_set]
    by_cases e : i = j
    · subst e; simp [hj]
    · simp [e]
  have hown2 : (w1.setCell ⟨fb, i, none⟩ v').ownsRow B 3 1 v' r.length (ints1 r) := by
    rcases hown.2 with ⟨h0, _⟩ | ⟨g, cap, cur, hv, hb, hgg, _⟩
    · exact ⟨hown.1, .inl ⟨h0, by assumption⟩⟩
    · refine ownsRow_setCell_other hown ?_ _
      rw [hv]
      simp only [Value.ownBlock, ne_eq, Option.some.injEq]
      intro e
      rcases hp g (by rw [hv]; rfl) with hc | hc
      · exact (h.ne hi hc).1 e
      · omega
  have hoth : ∀ j, j < F.length → i ≠ j → (w1.setCell ⟨fb, i, none⟩ v').ownsRow B 3 1 (vs.getD j undef) (F.getD j []).length (ints1 (F.getD j [])) := fun j hj hne => by
    have h1 : w1.ownsRow B 3 1 (vs.getD j undef) (F.getD j []).length (ints1 (F.getD j [])) := by
      refine (h.own j hj).kept hg ?_
      rcases (h.own j hj).2 with ⟨h0, _⟩ | ⟨g, cap, cur, hv, hb, hgg, _⟩
      · exact .inl (by rw [h0]; rfl)
      · refine .inr fun e => hne (h.apart i j g hi hj (by rw [← e, hv]; rfl) (by rw [hv]; rfl))
    refine ownsRow_setCell_other h1 ?_ _
    intro e
    exact (h.ne hj e).1 rfl
  refine ⟨⟨by simp [hl], ?_, ?_, ?_, h.above, by rw [List.length_set]; exact h.few⟩, ?_, ?_⟩
  · have ht : w1.heap[fb]? = some (.cells vs.toArray 23 (0, 0)) := (hg.block fb hlt (fun e => (h.ne hi e.symm).1 rfl)).trans h.tab
    simp [World.setCell, Array.getElem?_modify, ht]
  · intro j hj
    rw [List.length_set] at hj
    rw [hget j hj, hgetF j hj]
    by_cases e : i = j
    · simp only [if_pos e]; exact hown2
    · simp only [if_neg e]; exact hoth j hj e
  · intro a b k ha hb h1 h2
    rw [List.length_set] at ha hb
    rw [hget a ha] at h1
    rw [hget b hb] at h2
    by_cases ea : i = a
    · by_cases eb : i = b
      · omega
      · rw [if_pos ea] at h1; rw [if_neg eb] at h2
        rcases hp k h1 with hc | hc
        · have := h.apart i b k hi hb hc h2; omega
        · have := (h.ne hb h2).2.1; omega
    · by_cases eb : i = b
      · rw [if_neg ea] at h1; rw [if_pos eb] at h2
        rcases hp k h2 with hc | hc
        · have := h.apart a i k ha hi h1 hc; omega
        · have := (h.ne ha h1).2.1; omega
      · rw [if_neg ea] at h1; rw [if_neg eb] at h2
        exact h.apart a b k ha hb h1 h2
  · refine Ag.setCell ((Ag.refl _ w).grown hg (fun k hk hn => hn (.inr ⟨i, by omega, hk⟩))) (fun hn => hn (.inl rfl)) _
  · rintro k (rfl | ⟨j, hj, hk⟩)
    · exact .inl (.inl rfl)
    · rw [List.length_set] at hj
      rw [hget j (by omega)] at hk
      by_cases e : i = j
      · rw [if_pos e] at hk
        rcases hp k hk with hc | hc
        · exact .inl (.inr ⟨i, by omega, hc⟩)
        · exact .inr hc
      · rw [if_neg e] at hk
        exact .inl (.inr ⟨j, hj, hk⟩)
end

def linkF (F : List (List Int)) (l tq : List Int) : List (List Int) := l.foldl (fun F s => F.set s.toNat (F.getD s.toNat [] ++ tq)) F
theorem linkF_len (tq : List Int) : ∀ (l : List Int) (F : List (List Int)), (linkF F l tq).length = F.length := by
  intro l
  induction l with
  | nil => intro F; rfl
  | cons s l ih => intro F; show (linkF _ l tq).length = _; rw [ih]; simp
theorem linkF_succ (F : List (List Int)) (l tq : List Int) (k : Nat) (h : k < l.length) : linkF F (l.take (k + 1)) tq = (linkF F (l.take k) tq).set (l.getD k 0).toNat ((linkF F (l.take k) tq).getD (l.getD k 0).toNat [] ++ tq) := by
  rw [take_next l k h]
  unfold linkF
  rw [List.foldl_append]
  rfl
theorem linkF_row (tq : List Int) (L : Nat) : ∀ (l : List Int) (F : List (List Int)), (∀ r ∈ F, r.length ≤ L) → ∀ r ∈ linkF F l tq, r.length ≤ L + l.length * tq.length := by
  intro l
  induction l generalizing L with
  | nil => intro F h r hr; have := h r hr; omega
  | cons s l ih =>
    intro F h r hr
    have := ih (L + tq.length) (F.set s.toNat (F.getD s.toNat [] ++ tq)) (fun q hq => ?_) r hr
    · rw [List.length_cons, Nat.succ_mul]; omega
    · rcases List.mem_or_eq_of_mem_set hq with hq | rfl
      · have := h q hq; omega
      · rw [List.length_append]
        have : (F.getD s.toNat []).length ≤ L := by
          rw [List.getD_eq_getElem?_getD]
          cases e : F[s.toNat]? with
          | none => simp
          | some x => exact h x (List.mem_of_getElem? e)
        omega

theorem nf_rowdrew {w : World} {v : Value} {n : Nat} {cs : List Value} (h : Row w v n cs) : Row w.drew v n cs := h.below (Below.refl _ _).drew
theorem nf_slice {w : World} {base n : Nat} {e : TypeId} {v : Value} {xs : List Value} (h : w.ownsRow base e 1 v n xs) : ∃ o c, v = .slice o n c := by
  obtain ⟨o, c, e, _⟩ := Row.owned h; exact ⟨o, c, e⟩
theorem ints1_app (a b : List Int) : ints1 (a ++ b) = ints1 a ++ ints1 b := List.map_append
structure LinkAt (w : World) (B fb : Nat) (vs0 : List Value) (F0 : List (List Int)) (l tq : List Int) (k : Nat) (wx : World) : Prop where
  fol : ∃ vs, Fol wx B fb vs (linkF F0 (l.take k) tq) ∧ ∀ j, inF vs fb j → inF vs0 fb j ∨ w.heap.size ≤ j
  ag : Ag (fun j => ¬ inF vs0 fb j) w wx

theorem LinkAt.next {w wr w8 : World} {B fb : Nat} {vs vk : List Value} {F X : List (List Int)} {l tq : List Int} {k m : Nat} {v' : Value} (h : LinkAt w B fb vs F l tq k wr) (hf : Fol wr B fb vk X) (hn : ∀ j, inF vk fb j → inF vs fb j ∨ w.heap.size ≤ j) (hm : m < X.length)
    (hown : w8.ownsRow B 3 1 v' (X.getD m [] ++ tq).length (ints1 (X.getD m [] ++ tq))) (hg : wr.grownBy w8 (vk.getD m undef).ownBlock)
    (hp : ∀ k, v'.ownBlock = some k → (vk.getD m undef).ownBlock = some k ∨ wr.heap.size ≤ k) (e : linkF F (l.take (k + 1)) tq = X.set m (X.getD m [] ++ tq)) :
    LinkAt w B fb vs F l tq (k + 1) (w8.setCell ⟨fb, m, none⟩ v') := by
  obtain ⟨h1, h2, h3⟩ := hf.put hm hown hg hp
  have hs := h.ag.size
  refine ⟨⟨_, by rw [e]; exact h1, fun j hj => ?_⟩, ⟨h2.os.trans h.ag.os, h2.tape.trans h.ag.tape, h2.output.trans h.ag.output, Nat.le_trans hs h2.size, fun j hj hS => ?_⟩⟩
  · rcases h3 j hj with hj | hj
    · exact hn j hj
    · exact .inr (by omega)
  · refine (h2.block j (by omega) (fun hj2 => ?_)).trans (h.ag.block j hj hS)
    rcases hn j hj2 with h4 | h4
    · exact hS h4
    · omega

set_option maxRecDepth 100000 in
set_option maxHeartbeats 2000000 in
theorem link_any (B fb pb : Nat) (vs : List Value) (F : List (List Int)) (w : World) (hF : Fol w B fb vs F) (hpl : pb < w.heap.size) (hpb : w.cell? ⟨pb, 1, none⟩ = some (.slice (some ⟨fb, 0, none⟩) F.length F.length)) (hpn : ¬ inF vs fb pb)
    (l tq : List Int) (o1 o2 : Option Addr) (c1 c2 : Nat) (h1 : KP (fun j => ¬ inF vs fb j) w (fun w' => Row w' (.slice o1 l.length c1) l.length (ints1 l))) (h2 : KP (fun j => ¬ inF vs fb j) w (fun w' => Row w' (.slice o2 tq.length c2) tq.length (ints1 tq)))
    (hs : ∀ s ∈ l, 0 ≤ s ∧ s < (F.length : Int)) (hl : l.length ≤ 4000) (hto : tq.length ≤ 4000) (hL : ∀ k, k ≤ l.length → ∀ r ∈ linkF F (l.take k) tq, r.length ≤ 4000000) :
    Calls Tryz.prog 55 #[.pointer (some ⟨pb, 0, none⟩), .slice o1 l.length c1, .slice o2 tq.length c2] w fun e w' => (∃ x, e = .returned x) ∧ LinkAt w B fb vs F l tq l.length w' := by
  obtain ⟨ii, hi0, hi1, hi2, hi3⟩ := infoInt1
  have H1 := Lib.hid h1
  have H2 := Lib.hid h2
  have HS := Lib.hid hs
  have HL := Lib.hid hL
  have HF := Lib.hid hF
  have HP := Lib.hid hpb
  have hst : LinkAt w B fb vs F l tq 0 w := ⟨⟨vs, hF, fun j hj => .inl hj⟩, Ag.refl _ _⟩
  have HST := Lib.hid hst
  clear h1 h2 hs hL hF hpb hst
  go_enter Tryz.func55, Tryz.ntmps55
  go_wp2_with fail
  go_loopg [10] l.length (fun g s10 wx => ∃ k, k + g = l.length ∧ s10 = .int .i64 (k : Int) ∧ LinkAt w B fb vs F l tq k wx)
  case atStart => exact ⟨0, by omega, rfl, HST.out⟩
  case round =>
    obtain ⟨k, hk, rfl, hA⟩ := hrel
    have HA := Lib.hid hA
    obtain ⟨⟨vk, hfk, hnk⟩, hag⟩ := hA
    by_cases hlt : k < l.length
    · obtain ⟨g1, hg1⟩ : ∃ g1, g1 + 1 = gk := ⟨gk - 1, by omega⟩
      obtain ⟨s, hs⟩ : ∃ s, s = l.getD k 0 := ⟨_, rfl⟩
      have hmem : s ∈ l := by rw [hs, List.getD_eq_getElem?_getD, List.getElem?_eq_getElem hlt]; exact List.getElem_mem hlt
      have hsr := HS.out s hmem
      obtain ⟨m, rfl⟩ : ∃ m : Nat, s = (m : Int) := ⟨s.toNat, by omega⟩
      have hmF : m < F.length := by omega
      have hsucc := linkF_succ F l tq k hlt
      rw [← hs, Int.toNat_natCast] at hsucc
      obtain ⟨X, hX⟩ : ∃ X, X = linkF F (l.take k) tq := ⟨_, rfl⟩
      have hXl : X.length = F.length := by rw [hX, linkF_len]
      have hXr : ∀ r ∈ X, r.length ≤ 4000000 := by rw [hX]; exact HL.out k (by omega)
      rw [← hX] at hfk hsucc
      have hmX : m < X.length := by omega
      obtain ⟨hcm, hfm⟩ := hfk.cell hmX
      obtain ⟨bl, offl, rfl, hbl, hcl⟩ : ∃ b off, o1 = some ⟨b, off, none⟩ ∧ b < wr.heap.size ∧ wr.cell? ⟨b, off + k, none⟩ = some (.int .i64 (m : Int)) := by
        obtain ⟨o', c', e, h1, h2, h3⟩ := H1.out wr hag
        simp only [Value.slice.injEq, true_and] at e
        obtain ⟨rfl, rfl⟩ := e
        rcases h3 with ⟨h0, _⟩ | ⟨b, off, rfl, hb, hcs⟩
        · omega
        · exact ⟨b, off, rfl, hb, by rw [hcs k _ (getElem?_ints hlt), hs]⟩
      have hpk : wr.cell? ⟨pb, 1, none⟩ = some (.slice (some ⟨fb, 0, none⟩) F.length F.length) := by
        have := hag.block pb hpl hpn
        rw [← HP.out]
        simp [World.cell?, this]
      have hto2 := H2.out wr hag
      obtain ⟨R, hR⟩ : ∃ R, R = X.getD m [] := ⟨_, rfl⟩
      have hown := hfk.own m hmX
      have hRl : R.length ≤ 4000000 := by rw [hR, List.getD_eq_getElem?_getD, List.getElem?_eq_getElem hmX]; exact hXr _ (List.getElem_mem hmX)
      rw [← hR] at hown
      obtain ⟨u, hu⟩ : ∃ u, u = vk.getD m undef := ⟨_, rfl⟩
      rw [← hu] at hown hcm
      obtain ⟨ou, cu, rfl⟩ := (show ∃ o c, u = .slice o R.length c by obtain ⟨o, c, e, _⟩ := Row.owned hown; exact ⟨o, c, e⟩)
      have hfb := hfk.lt
      have hBw : B ≤ wr.heap.size := by have := hfk.above; omega
      have hne1 : ∀ q, (Value.slice ou R.length cu).ownBlock = some q → q ≠ fb := fun q hq => (hfk.ne hmX (by rw [← hu]; exact hq)).1
      have hpn2 : ∀ q, (Value.slice ou R.length cu).ownBlock = some q → q ≠ pb := fun q hq e => by
        subst e
        rcases hnk q (.inr ⟨m, by rw [hfk.len]; exact hmX, by rw [← hu]; exact hq⟩) with h | h
        · exact hpn h
        · omega
      have hpw : pb < wr.heap.size := Nat.lt_of_lt_of_le hpl hag.size
      have Hhs := Lib.hid hs
      have HX := Lib.hid hX
      have HR := Lib.hid hR
      have HU := Lib.hid hu
      have HFK := Lib.hid hfk
      have HNK := Lib.hid hnk
      have HSU := Lib.hid hsucc
      clear hs hX hR hu hfk hnk hsucc hag hmem hXr
      go_wp2_with fail
      go_region_law
        (refine step_append_far _ rfl _ _ 23 rfl B 3 ii (.int .i64 0) 1 8 Tryz.underlying23 hi0 hi1 hi2 hi3 rfl (by decide) (.slice ou R.length cu) R.length (ints1 R) rfl (by repeat (first | exact hown | exact hown.drew)) _ tq.length (ints1 tq) rfl (by first | exact hto2 | exact nf_rowdrew hto2) (by simp) (by simp [Value.oneCell']) (by unfold maxLen; omega) (by omega) (by simp; omega) ?_; intro v8 w8 hown8 hg8 hf8 hb8; obtain ⟨o9, c9, rfl⟩ := nf_slice hown8
         have hp8 : w8.cell? ⟨pb, 1, none⟩ = some (.slice (some ⟨fb, 0, none⟩) F.length F.length) := by rw [← hpk]; simp only [World.cell?]; rw [hg8.block pb (by simpa using hpw) (fun e => hpn2 pb e.symm rfl)]; rfl
         have hc8 : w8.cell? ⟨fb, m, none⟩ = some (.slice ou R.length cu) := by rw [← hcm]; simp only [World.cell?]; rw [hg8.block fb (by simpa using hfb) (fun e => hne1 fb e.symm rfl)]; rfl
         have hf8' : w8.frozen? ⟨fb, m, none⟩ = false := by rw [← hfm]; simp only [World.frozen?]; rw [hg8.block fb (by simpa using hfb) (fun e => hne1 fb e.symm rfl)]; rfl)
      all_goals (
        have hg9 : wr.grownBy w8 (Value.slice ou R.length cu).ownBlock := ⟨hg8.os, hg8.tape, hg8.output, hg8.size, hg8.block⟩
        have hnx := LinkAt.next HA.out HFK.out HNK.out hmX (v' := .slice o9 (R.length + tq.length) c9) (tq := tq) (by rw [← HR.out, List.length_append, ints1_app]; exact hown8) (by rw [← HU.out]; exact hg9) (by rw [← HU.out]; exact hf8) HSU.out
        have HNX := Lib.hid hnx
        clear hnx hg9 hg8 hf8 hb8 hown8 hp8 hc8 hf8'
        go_wp2_with fail
        go_roundg g1
        case measure => omega
        case rel => exact ⟨k + 1, by omega, by simp, HNX.out⟩)
    · obtain rfl : k = l.length := by omega
      clear hfk hnk hag
      go_wp2_with fail
      go_end0
      exact ⟨⟨_, rfl⟩, HA.out⟩
end Go.Proofs.YtmgfpcblbbpahaaGreat

namespace Go.Proofs.YtmgfpcblbbpahaaGreat
open Go.RowKit Ru

namespace Nf
def pt : RE → Int → List (List Int) → (Bool × List Int × List Int) × Int × List (List Int)
  | .mk k _ l, n, F =>
    match l with
    | [] => if k = 1 then ((true, [], []), n, F) else if k = 2 then ((false, [n], [n]), n + 1, F) else ((false, [], []), n, F)
    | [a] => if k = 5 then ((true, (pt a n F).1.2.1, (pt a n F).1.2.2), (pt a n F).2.1, linkF (pt a n F).2.2 (pt a n F).1.2.2 (pt a n F).1.2.1) else ((false, [], []), n, F)
    | [a, b] =>
      if k = 4 then (((pt a n F).1.1 || (pt b (pt a n F).2.1 (pt a n F).2.2).1.1, (pt a n F).1.2.1 ++ (pt b (pt a n F).2.1 (pt a n F).2.2).1.2.1, (pt a n F).1.2.2 ++ (pt b (pt a n F).2.1 (pt a n F).2.2).1.2.2), (pt b (pt a n F).2.1 (pt a n F).2.2).2.1, (pt b (pt a n F).2.1 (pt a n F).2.2).2.2)
      else if k = 3 then (((pt a n F).1.1 && (pt b (pt a n F).2.1 (pt a n F).2.2).1.1,
          (if (pt a n F).1.1 = true then (pt a n F).1.2.1 ++ (pt b (pt a n F).2.1 (pt a n F).2.2).1.2.1 else (pt a n F).1.2.1),
          (if (pt b (pt a n F).2.1 (pt a n F).2.2).1.1 = true then (pt b (pt a n F).2.1 (pt a n F).2.2).1.2.2 ++ (pt a n F).1.2.2 else (pt b (pt a n F).2.1 (pt a n F).2.2).1.2.2)),
          (pt b (pt a n F).2.1 (pt a n F).2.2).2.1, linkF (pt b (pt a n F).2.1 (pt a n F).2.2).2.2 (pt a n F).1.2.2 (pt b (pt a n F).2.1 (pt a n F).2.2).1.2.1)
      else ((false, [], []), n, F)
    | _ => ((false, [], []), n, F)
mutual
def sts : RE → List (List Pc)
  | .mk k s l => if k = 2 then s :: stsL l else stsL l
def stsL : List RE → List (List Pc)
  | [] => []
  | e :: l => sts e ++ stsL l
end
theorem sts_mk (k : Int) (s : List Pc) (l : List RE) : sts (.mk k s l) = if k = 2 then s :: stsL l else stsL l := by rw [sts]
theorem stsL_nil : stsL [] = [] := by rw [stsL]
theorem stsL_cons (e : RE) (l : List RE) : stsL (e :: l) = sts e ++ stsL l := by rw [stsL]
theorem prt_cases {k : Int} {s : List Pc} {l : List RE} (h : (RE.mk k s l).prt = true) :
    (k = 0 ∧ l = []) ∨ (k = 1 ∧ l = []) ∨ (k = 2 ∧ l = [] ∧ mayB s = true ∧ s.length ≤ 20) ∨ (k = 5 ∧ ∃ a, l = [a] ∧ a.prt = true) ∨ ((k = 3 ∨ k = 4) ∧ ∃ a b, l = [a, b] ∧ a.prt = true ∧ b.prt = true) := by
  rw [RE.prt_eq, Bool.and_eq_true] at h
  obtain ⟨h1, h2⟩ := h
  have hs0 : RE.shp (.mk k s l) = (if k = 2 then decide (1 ≤ s.length) && (decide (s.length ≤ 20) && (mayB s && decide (l.length = 0))) else if 0 < s.length then false else if k = 0 ∨ k = 1 then decide (l.length = 0) else if k = 5 then decide (l.length = 1) else if k = 3 ∨ k = 4 then decide (l.length = 2) else false) := rfl
  rw [hs0] at h1
  change RE.prtL l = true at h2
  by_cases k2 : k = 2
  · rw [if_pos k2] at h1
    simp only [Bool.and_eq_true, decide_eq_true_eq] at h1
    exact .inr (.inr (.inl ⟨k2, List.eq_nil_of_length_eq_zero h1.2.2.2, h1.2.2.1, h1.2.1⟩))
  rw [if_neg k2] at h1
  by_cases hs : 0 < s.length
  · rw [if_pos hs] at h1; cases h1
  rw [if_neg hs] at h1
  by_cases k01 : k = 0 ∨ k = 1
  · rw [if_pos k01] at h1
    have hl := List.eq_nil_of_length_eq_zero (of_decide_eq_true h1)
    rcases k01 with e | e
    · exact .inl ⟨e, hl⟩
    · exact .inr (.inl ⟨e, hl⟩)
  rw [if_neg k01] at h1
  by_cases k5 : k = 5
  · rw [if_pos k5] at h1
    obtain ⟨a, rfl⟩ := List.length_eq_one_iff.1 (of_decide_eq_true h1)
    rw [RE.prtL_cons, Bool.and_eq_true] at h2
    exact .inr (.inr (.inr (.inl ⟨k5, a, rfl, h2.1⟩)))
  rw [if_neg k5] at h1
  by_cases k34 : k = 3 ∨ k = 4
  · rw [if_pos k34] at h1
    have hl2 : l.length = 2 := of_decide_eq_true h1
    obtain ⟨a, b, rfl⟩ : ∃ a b, l = [a, b] := by
      rcases l with _ | ⟨a, _ | ⟨b, _ | ⟨c, l⟩⟩⟩
      · simp at hl2
      · simp at hl2
      · exact ⟨a, b, rfl⟩
      · simp at hl2
    rw [RE.prtL_cons, RE.prtL_cons, Bool.and_eq_true, Bool.and_eq_true] at h2
    exact .inr (.inr (.inr (.inr ⟨k34, a, b, rfl, h2.1, h2.2.1⟩)))
  · rw [if_neg k34] at h1; cases h1
theorem sts_size : ∀ (N : Nat) (e : RE), e.size ≤ N → e.prt = true → (sts e).length ≤ e.size := by
  intro N
  induction N with
  | zero => intro e h; have := e.size_pos; omega
  | succ N ih =>
    intro e h hp
    cases e with
    | mk k s l =>
      rw [RE.size_mk] at h ⊢
      rw [sts_mk]
      rcases prt_cases hp with ⟨rfl, rfl⟩ | ⟨rfl, rfl⟩ | ⟨rfl, rfl, _⟩ | ⟨rfl, a, rfl, ha⟩ | ⟨hk, a, b, rfl, ha, hb⟩
      · simp [stsL_nil]
      · simp [stsL_nil]
      · simp [stsL_nil, RE.sizes_nil]
      · rw [RE.sizes_cons, RE.sizes_nil] at h ⊢
        have := ih a (by omega) ha
        simp [stsL_cons, stsL_nil]; omega
      · rw [RE.sizes_cons, RE.sizes_cons, RE.sizes_nil] at h ⊢
        have h1 := ih a (by omega) ha
        have h2 := ih b (by omega) hb
        have : ¬ k = 2 := by omega
        simp [stsL_cons, stsL_nil, this]; omega
theorem linkF_mem (tq : List Int) (G : Int → Prop) (hto : ∀ x ∈ tq, G x) : ∀ (l : List Int) (F : List (List Int)), (∀ r ∈ F, ∀ x ∈ r, G x) → ∀ r ∈ linkF F l tq, ∀ x ∈ r, G x := by
  intro l
  induction l with
  | nil => intro F h; exact h
  | cons s l ih =>
    intro F h
    refine ih _ fun r hr => ?_
    rcases List.mem_or_eq_of_mem_set hr with hr | rfl
    · exact h r hr
    · intro x hx
      rw [List.mem_append] at hx
      rcases hx with hx | hx
      · rw [List.getD_eq_getElem?_getD] at hx
        cases e : F[s.toNat]? with
        | none => rw [e] at hx; simp at hx
        | some q => rw [e] at hx; exact h q (List.mem_of_getElem? e) x hx
      · exact hto x hx
structure PtOk (e : RE) (n : Int) (F : List (List Int)) (r : (Bool × List Int × List Int) × Int × List (List Int)) : Prop where
  nxt : r.2.1 = n + (sts e).length
  fst : ∀ x ∈ r.1.2.1, n ≤ x ∧ x < r.2.1
  lst : ∀ x ∈ r.1.2.2, n ≤ x ∧ x < r.2.1
  fl : r.1.2.1.length ≤ (sts e).length
  ll : r.1.2.2.length ≤ (sts e).length
  len : r.2.2.length = F.length
  row : ∀ L, (∀ q ∈ F, q.length ≤ L) → ∀ q ∈ r.2.2, q.length ≤ L + e.size * ((sts e).length * (sts e).length)
  mem : ∀ M : Int, r.2.1 ≤ M → (∀ q ∈ F, ∀ x ∈ q, 0 ≤ x ∧ x < M) → ∀ q ∈ r.2.2, ∀ x ∈ q, 0 ≤ x ∧ x < M
theorem pt_nil (k : Int) (s : List Pc) (n : Int) (F : List (List Int)) : pt (.mk k s []) n F = if k = 1 then ((true, [], []), n, F) else if k = 2 then ((false, [n], [n]), n + 1, F) else ((false, [], []), n, F) := by rw [pt]
theorem pt_star (s : List Pc) (a : RE) (n : Int) (F : List (List Int)) : pt (.mk 5 s [a]) n F = ((true, (pt a n F).1.2.1, (pt a n F).1.2.2), (pt a n F).2.1, linkF (pt a n F).2.2 (pt a n F).1.2.2 (pt a n F).1.2.1) := by rw [pt]; simp
theorem pt_alt (s : List Pc) (a b : RE) (n : Int) (F : List (List Int)) (x y : (Bool × List Int × List Int) × Int × List (List Int)) (hx : pt a n F = x) (hy : pt b x.2.1 x.2.2 = y) :
    pt (.mk 4 s [a, b]) n F = ((x.1.1 || y.1.1, x.1.2.1 ++ y.1.2.1, x.1.2.2 ++ y.1.2.2), y.2.1, y.2.2) := by rw [pt]; simp [hx, hy]
theorem pt_seq (s : List Pc) (a b : RE) (n : Int) (F : List (List Int)) (x y : (Bool × List Int × List Int) × Int × List (List Int)) (hx : pt a n F = x) (hy : pt b x.2.1 x.2.2 = y) :
    pt (.mk 3 s [a, b]) n F = ((x.1.1 && y.1.1, (if x.1.1 = true then x.1.2.1 ++ y.1.2.1 else x.1.2.1), (if y.1.1 = true then y.1.2.2 ++ x.1.2.2 else y.1.2.2)), y.2.1, linkF y.2.2 x.1.2.2 y.1.2.1) := by rw [pt]; simp [hx, hy]
theorem pt_ok : ∀ (N : Nat) (e : RE), e.size ≤ N → e.prt = true → ∀ (n : Int) (F : List (List Int)), 0 ≤ n → PtOk e n F (pt e n F) := by
  intro N
  induction N with
  | zero => intro e h; have := e.size_pos; omega
  | succ N ih =>
    intro e h hp n F hn
    cases e with
    | mk k s l =>
      rw [RE.size_mk] at h
      rcases prt_cases hp with ⟨rfl, rfl⟩ | ⟨rfl, rfl⟩ | ⟨rfl, rfl, _⟩ | ⟨rfl, a, rfl, ha⟩ | ⟨hk, a, b, rfl, ha, hb⟩
      · rw [pt_nil]; simp only [show ¬ (0 : Int) = 1 by omega, show ¬ (0 : Int) = 2 by omega, if_false]
        exact ⟨by simp [sts_mk, stsL_nil], by simp, by simp, by simp, by simp, rfl, fun L h q hq => by have := h q hq; omega, fun M _ h => h⟩
      · rw [pt_nil]; simp only [if_true]
        exact ⟨by simp [sts_mk, stsL_nil], by simp, by simp, by simp, by simp, rfl, fun L h q hq => by have := h q hq; omega, fun M _ h => h⟩
      · rw [pt_nil]; simp only [show ¬ (2 : Int) = 1 by omega, if_false, if_true]
        exact ⟨by simp [sts_mk, stsL_nil], fun x hx => by have := List.mem_singleton.1 hx; subst this; exact ⟨Int.le_refl _, by show x < x + 1; omega⟩, fun x hx => by have := List.mem_singleton.1 hx; subst this; exact ⟨Int.le_refl _, by show x < x + 1; omega⟩, by simp [sts_mk], by simp [sts_mk], rfl, fun L h q hq => by have := h q hq; omega, fun M _ h => h⟩
      · rw [RE.sizes_cons, RE.sizes_nil] at h
        have h1 := ih a (by omega) ha n F hn
        rw [pt_star]
        generalize pt a n F = x at h1
        have es : sts (.mk 5 s [a]) = sts a := by simp [sts_mk, stsL_cons, stsL_nil]
        refine ⟨by rw [es]; exact h1.nxt, h1.fst, h1.lst, by rw [es]; exact h1.fl, by rw [es]; exact h1.ll, by rw [linkF_len]; exact h1.len, fun L hL q hq => ?_, fun M hM hF => ?_⟩
        · have h2 := linkF_row x.1.2.1 _ x.1.2.2 x.2.2 (h1.row L hL) q hq
          rw [es, RE.size_mk, RE.sizes_cons, RE.sizes_nil, Nat.add_zero, Nat.succ_mul]
          have h3 : x.1.2.2.length * x.1.2.1.length ≤ (sts a).length * (sts a).length := Nat.mul_le_mul h1.ll h1.fl
          omega
        · exact linkF_mem _ (fun x => 0 ≤ x ∧ x < M) (fun y hy => by have := h1.fst y hy; simp only at hM; omega) _ _ (h1.mem M hM hF)
      · rw [RE.sizes_cons, RE.sizes_cons, RE.sizes_nil] at h
        have h1 := ih a (by omega) ha n F hn
        obtain ⟨x, hx⟩ : ∃ x, pt a n F = x := ⟨_, rfl⟩
        rw [hx] at h1
        have h2 := ih b (by omega) hb x.2.1 x.2.2 (by rw [h1.nxt]; omega)
        obtain ⟨y, hy⟩ : ∃ y, pt b x.2.1 x.2.2 = y := ⟨_, rfl⟩
        rw [hy] at h2
        have hn1 := h1.nxt
        have hn2 := h2.nxt
        have f1 := h1.fl
        have f2 := h2.fl
        have l1 := h1.ll
        have l2 := h2.ll
        have k2 : ¬ k = 2 := by omega
        have es : sts (.mk k s [a, b]) = sts a ++ sts b := by simp [sts_mk, stsL_cons, stsL_nil, k2]
        have hsz : (RE.mk k s [a, b]).size = a.size + b.size + 1 := by rw [RE.size_mk, RE.sizes_cons, RE.sizes_cons, RE.sizes_nil]; omega
        have hsq : ∀ (A B : Nat), A * A ≤ (A + B) * (A + B) ∧ B * B ≤ (A + B) * (A + B) ∧ A * B ≤ (A + B) * (A + B) := fun A B =>
          ⟨Nat.mul_le_mul (by omega) (by omega), Nat.mul_le_mul (by omega) (by omega), Nat.mul_le_mul (by omega) (by omega)⟩
        obtain ⟨q1, q2, q3⟩ := hsq (sts a).length (sts b).length
        have hrow : ∀ L, (∀ q ∈ F, q.length ≤ L) → ∀ q ∈ y.2.2, q.length ≤ L + (a.size + b.size) * (((sts a).length + (sts b).length) * ((sts a).length + (sts b).length)) := fun L hL q hq => by
          have := h2.row _ (h1.row L hL) q hq
          have e1 := Nat.mul_le_mul_left a.size q1
          have e2 := Nat.mul_le_mul_left b.size q2
          rw [Nat.add_mul]
          omega
        rcases hk with rfl | rfl
        · rw [pt_seq s a b n F x y hx hy]
          refine ⟨by rw [es]; simp; omega, fun z hz0 => ?_, fun z hz0 => ?_, ?_, ?_, by rw [linkF_len]; rw [h2.len, h1.len], fun L hL q hq => ?_, fun M hM hF => ?_⟩
          · have hz : z ∈ (if x.1.1 = true then x.1.2.1 ++ y.1.2.1 else x.1.2.1) := hz0
            split at hz
            · rw [List.mem_append] at hz
              rcases hz with hz | hz
              · have := h1.fst z hz; refine ⟨?_, ?_⟩ <;> (try dsimp only) <;> omega
              · have := h2.fst z hz; refine ⟨?_, ?_⟩ <;> (try dsimp only) <;> omega
            · have := h1.fst z hz; refine ⟨?_, ?_⟩ <;> (try dsimp only) <;> omega
          · have hz : z ∈ (if y.1.1 = true then y.1.2.2 ++ x.1.2.2 else y.1.2.2) := hz0
            split at hz
            · rw [List.mem_append] at hz
              rcases hz with hz | hz
              · have := h2.lst z hz; refine ⟨?_, ?_⟩ <;> (try dsimp only) <;> omega
              · have := h1.lst z hz; refine ⟨?_, ?_⟩ <;> (try dsimp only) <;> omega
            · have := h2.lst z hz; refine ⟨?_, ?_⟩ <;> (try dsimp only) <;> omega
          · rw [es, List.length_append]; show (if x.1.1 = true then _ else _ : List Int).length ≤ _; split
            · rw [List.length_append]; omega
            · omega
          · rw [es, List.length_append]; show (if y.1.1 = true then _ else _ : List Int).length ≤ _; split
            · rw [List.length_append]; omega
            · omega
          · have h3 := linkF_row y.1.2.1 _ x.1.2.2 y.2.2 (hrow L hL) q hq
            rw [es, hsz, List.length_append, Nat.succ_mul]
            have h4 : x.1.2.2.length * y.1.2.1.length ≤ (sts a).length * (sts b).length := Nat.mul_le_mul l1 f2
            omega
          · simp only at hM
            exact linkF_mem _ (fun x => 0 ≤ x ∧ x < M) (fun z hz => by have := h2.fst z hz; omega) _ _ (h2.mem M hM (h1.mem M (by omega) hF))
        · rw [pt_alt s a b n F x y hx hy]
          refine ⟨by rw [es]; simp; omega, fun z hz => ?_, fun z hz => ?_, ?_, ?_, by rw [h2.len, h1.len], fun L hL q hq => ?_, fun M hM hF => ?_⟩
          · rw [List.mem_append] at hz
            rcases hz with hz | hz
            · have := h1.fst z hz; refine ⟨?_, ?_⟩ <;> (try dsimp only) <;> omega
            · have := h2.fst z hz; refine ⟨?_, ?_⟩ <;> (try dsimp only) <;> omega
          · rw [List.mem_append] at hz
            rcases hz with hz | hz
            · have := h1.lst z hz; refine ⟨?_, ?_⟩ <;> (try dsimp only) <;> omega
            · have := h2.lst z hz; refine ⟨?_, ?_⟩ <;> (try dsimp only) <;> omega
          · rw [es, List.length_append, List.length_append]; omega
          · rw [es, List.length_append, List.length_append]; omega
          · have h3 := hrow L hL q hq
            rw [es, hsz, List.length_append, Nat.succ_mul]
            omega
          · simp only at hM
            exact h2.mem M hM (h1.mem M (by omega) hF)
end Nf
end Go.Proofs.YtmgfpcblbbpahaaGreat
