/- Merged. -/
import Derived.Laws.StructEq
import Derived.Test.YtfkmajjgkdjncaaGreatDoorClsG
import Derived.Test.YtfkmajjgkdjncaaGreatDoorPmScan
import Derived.Test.YtfkmajjgkdjncaaGreatDoorPrNone
set_option linter.unusedVariables false
set_option linter.unusedSimpArgs false
namespace Go.Proofs.YtfkmajjgkdjncaaGreatDoor
open Go.RowKit De Wd
namespace De
def asc : Nat → List Int → List (Nat × It)
 | _, [] => []
 | a, c :: t => (a, ⟨c, 1, false, false, false⟩) :: asc (a + 1) t
theorem all_asc : ∀ (l : List Int) (a : Nat), (∀ x ∈ l, x < 128) → all a l = asc a l := by
 intro l
 induction l with
 | nil => intro a _; rw [all_nil]; rfl
 | cons c t ih =>
  intro a h
  have h1 : one (c :: t) = ⟨c, 1, false, false, false⟩ := one1 (h c (by simp))
  rw [all_cons a _ (by simp), h1]
  show (a, _) :: all (a + 1) t = _
  rw [ih _ fun x hx => h x (by simp [hx])]
  rfl
end De
namespace Wd
theorem asc_good : ∀ (l : List Int) (a : Nat), ∀ p ∈ asc a l, p.2.bad = false ∧ p.2.r ∈ l := by
 intro l
 induction l with
 | nil => intro a p hp; simp [asc] at hp
 | cons c t ih =>
  intro a p hp
  simp only [asc, List.mem_cons] at hp
  rcases hp with rfl | hp
  · simp
  · have := ih _ p hp
    exact ⟨this.1, by simp [this.2]⟩
theorem fb_asc {l : List Int} (h : ∀ x ∈ l, x < 128) : fb l = l.length := by
 unfold fb
 rw [all_asc l 0 h]
 have : (asc 0 l).find? (·.2.bad) = none := by
  rw [List.find?_eq_none]; intro p hp; simp [(asc_good l 0 p hp).1]
 rw [this]
def scF : Nat → Nat → List Int → List (Nat × Wt) × Option Nat
 | 0, _, _ => ([], none)
 | _ + 1, _, [] => ([], none)
 | n + 1, a, c :: t => match wd (c :: t) with
  | none => ([], some a)
  | some x => (if x.k = 0 then (scF n (a + x.z) ((c :: t).drop x.z)).1 else (a, x) :: (scF n (a + x.z) ((c :: t).drop x.z)).1, (scF n (a + x.z) ((c :: t).drop x.z)).2)
theorem scF_eq : ∀ (n a : Nat) (l : List Int), l.length ≤ n → scF n a l = sc a l := by
 intro n
 induction n with
 | zero => intro a l h; have : l = [] := List.eq_nil_of_length_eq_zero (by omega); subst this; rw [sc_nil]; rfl
 | succ n ih =>
  intro a l h
  cases l with
  | nil => rw [sc_nil]; rfl
  | cons c t =>
   simp only [scF]
   cases hw : wd (c :: t) with
   | none => rw [sc_none (by simp) hw]
   | some x =>
    have h1 := (wd_ok hw).1
    rw [sc_cons hw]
    simp only
    rw [ih _ _ (by rw [List.length_drop]; omega)]
theorem rs_asc {l : List Int} (h : ∀ x ∈ l, x < 128) (hl : l.length ≤ 4000) : rs l = match (scF l.length 0 l).2 with | some a => .bad 2 (min a l.length) | none => .ok (scF l.length 0 l).1 := by
 unfold rs
 rw [if_neg (by omega), fb_asc h, scF_eq _ _ _ (Nat.le_refl _)]
 cases (sc 0 l).2 with
 | some a => rfl
 | none => simp
theorem rs_asc_ok {l : List Int} {W : List (Nat × Wt)} (h : ∀ x ∈ l, x < 128) (hl : l.length ≤ 4000) (hW : scF l.length 0 l = (W, none)) : rs l = .ok W := by
 rw [rs_asc h hl, hW]
end Wd
end Go.Proofs.YtfkmajjgkdjncaaGreatDoor

namespace Go.Proofs.YtfkmajjgkdjncaaGreatDoor
open Go.RowKit De Wd
namespace Wd
theorem asc_get : ∀ (l : List Int) (a k : Nat), (asc a l)[k]? = (l[k]?).map fun c => (a + k, ⟨c, 1, false, false, false⟩) := by
 intro l
 induction l with
 | nil => intro a k; simp [asc]
 | cons c t ih =>
  intro a k
  cases k with
  | zero => simp [asc]
  | succ k =>
   simp only [asc, List.getElem?_cons_succ, ih]
   rw [show a + 1 + k = a + (k + 1) by omega]
theorem asc_len : ∀ (l : List Int) (a : Nat), (asc a l).length = l.length
 | [], a => rfl
 | c :: t, a => by simp [asc, asc_len t]
theorem pk_asc (l : List Int) (a k : Nat) : pk (asc a l) k = (l[k]?).getD (-1) := by
 unfold pk
 rw [asc_get]
 cases l[k]? <;> rfl
def At (L : Its) (k : Nat) (t : List Int) : Prop := ∀ i, i < t.length → pk L (k + i) = t.getD i 0
theorem At.head {L : Its} {k : Nat} {c : Int} {t : List Int} (h : At L k (c :: t)) : pk L k = c := by have := h 0 (by simp); simpa using this
theorem At.tail {L : Its} {k : Nat} {c : Int} {t : List Int} (h : At L k (c :: t)) : At L (k + 1) t := fun i hi => by
 have := h (i + 1) (by simpa using hi)
 rw [show k + 1 + i = k + (i + 1) by omega, this]; simp
theorem At.left {L : Its} {k : Nat} {s t : List Int} (h : At L k (s ++ t)) : At L k s := fun i hi => by
 rw [h i (by rw [List.length_append]; omega)]
 simp [List.getD, List.getElem?_append_left hi]
theorem At.right {L : Its} {k : Nat} {s t : List Int} (h : At L k (s ++ t)) : At L (k + s.length) t := fun i hi => by
 have := h (s.length + i) (by rw [List.length_append]; omega)
 rw [Nat.add_assoc, this]
 simp [List.getD, List.getElem?_append_right (show s.length ≤ s.length + i by omega)]
theorem At.whole (l : List Int) (a : Nat) : At (asc a l) 0 l := fun i hi => by
 rw [pk_asc, Nat.zero_add]; simp [List.getD, hi]
def hv (k : Nat) : Int := if k < 10 then 48 + (k : Int) else 55 + (k : Int)
def hexI (n : Nat) : List Int := if h : n < 16 then [hv n] else hexI (n / 16) ++ [hv (n % 16)]
theorem hexI_small {n : Nat} (h : n < 16) : hexI n = [hv n] := by rw [hexI, dif_pos h]
theorem hexI_big {n : Nat} (h : ¬ n < 16) : hexI n = hexI (n / 16) ++ [hv (n % 16)] := by rw [hexI, dif_neg h]
theorem dg_hv {k : Nat} (h : k < 16) : dg (hv k) = (k : Int) := by
 unfold dg hv
 split <;> split <;> (try split) <;> omega
theorem hv_ok {k : Nat} (h : k < 16) : 48 ≤ hv k ∧ hv k ≤ 70 := by unfold hv; split <;> omega
theorem sb_hexU : ∀ (N n : Nat), n ≤ N → sb (hexU n) = hexI n := by
 have hd : ∀ k : Nat, k < 16 → (Lib.toUpperA [hexd k]).map (fun b => (b.toNat : Int)) = [hv k] := by decide
 intro N
 induction N with
 | zero => intro n h; have : n = 0 := by omega
           subst this; rw [hexI_small (by omega)]; show (Lib.toUpperA (hexN 0)).map _ = _; rw [hexN_small (by omega)]; exact hd 0 (by omega)
 | succ N ih =>
  intro n h
  by_cases h16 : n < 16
  · rw [hexI_small h16]; show (Lib.toUpperA (hexN n)).map _ = _; rw [hexN_small h16]; exact hd n h16
  · rw [hexI_big h16, ← ih (n / 16) (by omega)]
    show (Lib.toUpperA (hexN n)).map _ = (Lib.toUpperA (hexN (n / 16))).map _ ++ _
    rw [hexN_big h16, ← hd _ (Nat.mod_lt _ (by decide))]
    simp [Lib.toUpperA]
theorem hexI_len : ∀ (k n : Nat), n < 16 ^ (k + 1) → (hexI n).length ≤ k + 1 ∧ 1 ≤ (hexI n).length := by
 intro k
 induction k with
 | zero => intro n h; rw [hexI_small (by simpa using h)]; simp
 | succ k ih =>
  intro n h
  by_cases h16 : n < 16
  · rw [hexI_small h16]; simp
  · rw [hexI_big h16]
    have := ih (n / 16) (by rw [Nat.div_lt_iff_lt_mul (by decide)]; rw [Nat.pow_succ] at h; exact h)
    simp; omega
theorem num_hex (L : Its) : ∀ (N n : Nat), n ≤ N → ∀ (f c k : Nat) (t : List Int), n ≤ 1114111 → c = 0 → At L k (hexI n ++ t) → num L (f + (hexI n).length) 0 0 k = num L f (hexI n).length (n : Int) (k + (hexI n).length) ∧ True := by
 intro N
 induction N with
 | zero =>
  intro n h f c k t h1 hc hA
  have : n = 0 := by omega
  subst this
  rw [hexI_small (by omega)] at hA ⊢
  refine ⟨?_, trivial⟩
  have e := hA.head
  simp only [List.length_singleton, num]
  rw [e, if_neg (by simp), if_pos ⟨by simp [hv], by simp [dok, dg_hv]⟩, dg_hv (by omega)]
  simp
 | succ N ih =>
  intro n h f c k t h1 hc hA
  refine ⟨?_, trivial⟩
  by_cases h16 : n < 16
  · rw [hexI_small h16] at hA ⊢
    have e := hA.head
    have b := hv_ok h16
    simp only [List.length_singleton, num]
    rw [e, if_neg (by simp), if_pos ⟨by omega, by simp [dok, dg_hv h16]; omega⟩, dg_hv h16]
    simp
  · rw [hexI_big h16, List.append_assoc] at hA
    have hl := hexI_len 5 (n / 16) (by simp; omega)
    have hl4 := hexI_len 4 (n / 16) (by simp; omega)
    have key := (ih (n / 16) (by omega) (f + 1) 0 k _ (by omega) rfl hA).1
    rw [hexI_big h16, List.length_append, List.length_singleton]
    rw [show f + ((hexI (n / 16)).length + 1) = f + 1 + (hexI (n / 16)).length by omega, key]
    have e := hA.right.head
    have b := hv_ok (Nat.mod_lt n (show 16 > 0 by decide))
    have hm := Nat.mod_lt n (show 16 > 0 by decide)
    have hdm := Nat.div_add_mod n 16
    have ev : ((n / 16 : Nat) : Int) * 16 + ((n % 16 : Nat) : Int) = (n : Int) := by omega
    simp only [num]
    rw [e, if_neg (by intro hx; have := hx.2; omega), if_pos ⟨by omega, by
     have : ((n / 16 : Nat) : Int) * 16 + dg (hv (n % 16)) ≤ 1114111 := by rw [dg_hv hm, ev]; omega
     simp only [dok, Bool.and_eq_true, decide_eq_true_eq]
     refine ⟨⟨by omega, by rw [dg_hv hm]; omega⟩, this⟩⟩, dg_hv hm, ev]
    rw [show k + (hexI (n / 16)).length + 1 = k + ((hexI (n / 16)).length + 1) by omega]
theorem sb_app (a b : ByteArray) : sb (a ++ b) = sb a ++ sb b := by simp [sb, ByteArray.data_append]
def lb (r : Int) : List Int := if alnum r = true then [r] else [92, 117, 123] ++ (hexI r.toNat ++ [125])
theorem sb_let {r : Int} (h0 : 0 ≤ r) : sb (letB r) = lb r := by
 unfold letB lb
 split
 · rename_i ha
   have h1 : r ≤ 127 := by unfold alnum at ha; simp at ha; omega
   simp [sb]
   omega
 · rw [sb_app, sb_app, sb_hexU _ _ (Nat.le_refl _)]
   rfl
theorem lb_len {r : Int} (h0 : 0 ≤ r) (h1 : r ≤ 1114111) : 1 ≤ (lb r).length ∧ (lb r).length ≤ 10 := by
 unfold lb
 split
 · simp
 · have := hexI_len 5 r.toNat (by simp; omega)
   simp; omega
theorem lb_head {r : Int} (h0 : 0 ≤ r) (t : List Int) : ∃ c u, lb r ++ t = c :: u ∧ (c = 92 ∨ (alnum c = true)) := by
 unfold lb
 split
 · rename_i h; exact ⟨r, t, rfl, .inr h⟩
 · exact ⟨92, _, rfl, .inl rfl⟩
theorem okL_alnum {r : Int} (h : alnum r = true) : okL r = true ∧ 0 ≤ r ∧ r ≠ 92 ∧ r ≠ 45 ∧ r ≠ 94 := by
 unfold alnum at h
 simp at h
 refine ⟨?_, by omega, by omega, by omega, by omega⟩
 unfold okL lst1
 simp
 omega
theorem lt_let (L : Its) (k : Nat) (r : Int) (t : List Int) (h0 : 0 ≤ r) (h1 : r ≤ 1114111) (hs : ¬ (55296 ≤ r ∧ r < 57344)) (hA : At L k (lb r ++ t)) : lt L k = .ok (r, k + (lb r).length) := by
 unfold lb at hA ⊢
 by_cases ha : alnum r = true
 · rw [if_pos ha] at hA ⊢
   obtain ⟨b1, b2, b3, -⟩ := okL_alnum ha
   have e := hA.head
   unfold lt
   rw [e, if_pos ⟨b2, b1⟩, if_neg b3]
   rfl
 · rw [if_neg ha] at hA ⊢
   obtain ⟨n, rfl⟩ : ∃ n : Nat, r = (n : Int) := ⟨r.toNat, by omega⟩
   have en : ((n : Int)).toNat = n := by omega
   rw [en] at hA ⊢
   have hl := hexI_len 5 n (by simp; omega)
   have e0 : pk L k = 92 := hA.head
   have e1 : pk L (k + 1) = 117 := hA.tail.head
   have e2 : pk L (k + 1 + 1) = 123 := hA.tail.tail.head
   have hB : At L (k + 1 + 1 + 1) (hexI n ++ (125 :: t)) := by
    have h := hA.tail.tail.tail
    have e : (hexI n ++ [125]) ++ t = hexI n ++ (125 :: t) := by simp
    rw [← e]
    exact h
   have e3 : pk L (k + 1 + 1 + 1 + (hexI n).length) = 125 := hB.right.head
   have key := (num_hex L n n (Nat.le_refl _) (7 - (hexI n).length) 0 (k + 1 + 1 + 1) (125 :: t) (by omega) rfl hB).1
   rw [show 7 - (hexI n).length + (hexI n).length = 7 by omega] at key
   obtain ⟨g, hg⟩ : ∃ g, 7 - (hexI n).length = g + 1 := ⟨6 - (hexI n).length, by omega⟩
   unfold lt esc
   rw [e0, if_pos ⟨by decide, by decide⟩, if_pos rfl, e1, if_pos ⟨by decide, by decide⟩, if_neg (by decide), if_neg (by decide), if_neg (by decide), if_pos rfl, show k + 1 + 2 = k + 1 + 1 + 1 by omega, e2, if_pos ⟨by decide, by decide⟩, key, hg]
   simp only [num]
   rw [e3, if_pos ⟨by omega, rfl⟩, if_neg (by omega)]
   simp
   omega
def rI (x : Int × Int) : List Int := if x.1 = x.2 then lb x.1 else lb x.1 ++ (45 :: lb x.2)
def Sk (x : Int × Int) : Prop := ((0 ≤ x.1 ∧ x.1 ≤ 1114111) ∧ ¬ (55296 ≤ x.1 ∧ x.1 < 57344)) ∧ ((0 ≤ x.2 ∧ x.2 ≤ 1114111) ∧ ¬ (55296 ≤ x.2 ∧ x.2 < 57344)) ∧ x.1 ≤ x.2
theorem sb_rng {x : Int × Int} (h : Sk x) : sb (rngB x) = rI x := by
 unfold rngB rI
 split
 · exact sb_let h.1.1.1
 · rw [sb_app, sb_app, sb_let h.1.1.1, sb_let h.2.1.1.1, List.append_assoc]
   rfl
theorem rI_pos {x : Int × Int} (h : Sk x) : 1 ≤ (rI x).length := by
 have := lb_len h.1.1.1 h.1.1.2
 unfold rI; split
 · omega
 · rw [List.length_append]; omega
theorem rI_head {x : Int × Int} (h : Sk x) (t : List Int) : ∃ c u, rI x ++ t = c :: u ∧ (c = 92 ∨ alnum c = true) := by
 unfold rI
 split
 · exact lb_head h.1.1.1 t
 · rw [List.append_assoc]; exact lb_head h.1.1.1 _
def Ends (L : Its) (k : Nat) : Prop := pk L k ≠ 45
theorem elF_rng (L : Its) (k : Nat) (x : Int × Int) (hx : Sk x) (hA : At L k (rI x)) (hE : Ends L (k + (rI x).length)) : elF L k = .ok (x, k + (rI x).length) := by
 obtain ⟨a, b⟩ := x
 unfold rI at hA hE ⊢
 by_cases c : a = b
 · subst c
   simp only [if_true] at hA hE ⊢
   have h1 := lt_let L k a [] hx.1.1.1 hx.1.1.2 hx.1.2 (by simpa using hA)
   unfold elF
   rw [h1]
   simp only
   rw [if_neg hE]
 · have c' : ¬ (a, b).1 = (a, b).2 := c
   rw [if_neg c'] at hA hE ⊢
   have h1 := lt_let L k a _ hx.1.1.1 hx.1.1.2 hx.1.2 hA
   have e := hA.right.head
   have h2 := lt_let L (k + (lb a).length + 1) b [] hx.2.1.1.1 hx.2.1.1.2 hx.2.1.2 (by simpa using hA.right.tail)
   have hab : a ≤ b := hx.2.2
   unfold elF
   rw [h1]
   simp only
   rw [if_pos e, h2]
   simp only
   rw [if_neg (by omega)]
   simp only [List.length_append, List.length_cons]
   rw [show k + (lb a).length + 1 + (lb b).length = k + ((lb a).length + ((lb b).length + 1)) by omega]
def rsI (l : List (Int × Int)) : List Int := (l.map rI).flatten
theorem rsI_cons (x : Int × Int) (l : List (Int × Int)) : rsI (x :: l) = rI x ++ rsI l := by simp [rsI]
theorem rsI_head {l : List (Int × Int)} (h : ∀ x ∈ l, Sk x) : l = [] ∨ ∃ c u, rsI l = c :: u ∧ (c = 92 ∨ alnum c = true) := by
 cases l with
 | nil => exact .inl rfl
 | cons x l => right; rw [rsI_cons]; exact rI_head (h x (by simp)) _
theorem elsF_rngs (L : Its) : ∀ (l : List (Int × Int)) (f k : Nat) (acc : List (Int × Int)), (∀ x ∈ l, Sk x) → (acc ≠ [] ∨ l ≠ []) → At L k (rsI l) → L.length = k + (rsI l).length → l.length < f → elsF L f acc k = .ok (acc ++ l) := by
 intro l
 induction l with
 | nil =>
  intro f k acc _ hne hA hL hf
  obtain ⟨g, rfl⟩ : ∃ g, f = g + 1 := ⟨f - 1, by omega⟩
  rw [elsF_stop (by rcases hne with h | h; exact h; exact absurd rfl h) (by simp [rsI] at hL; omega)]
  simp
 | cons x l ih =>
  intro f k acc hx hne hA hL hf
  obtain ⟨g, rfl⟩ : ∃ g, f = g + 1 := ⟨f - 1, by omega⟩
  rw [rsI_cons] at hA hL
  have hxx := hx x (by simp)
  have hxl : ∀ y ∈ l, Sk y := fun y hy => hx y (by simp [hy])
  have hp := rI_pos hxx
  have hE : Ends L (k + (rI x).length) := by
   unfold Ends
   rcases rsI_head hxl with h | ⟨c, u, h, hc⟩
   · subst h
     rw [pk_end (by simp [rsI] at hL; omega)]; decide
   · have := hA.right
     rw [h] at this
     rw [this.head]
     rcases hc with rfl | hc
     · decide
     · exact (okL_alnum hc).2.2.2.1
  rw [List.length_append] at hL
  rw [elsF_go (by rintro ⟨-, h⟩; omega) (elF_rng L k x hxx hA.left hE), ih g _ (acc ++ [x]) hxl (.inl (by simp)) hA.right (by omega) (by simp at hf; omega)]
  simp
theorem clsF_rngs (l : List (Int × Int)) (n : Nat) (h : ∀ x ∈ l, Sk x) (hne : l ≠ []) (hn : Ru.nrm l = l) : clsF (all 0 (rsI l)) n = .ok l := by
 have hasc : all 0 (rsI l) = asc 0 (rsI l) := all_asc _ _ (by
  have hlb : ∀ r, 0 ≤ r → ∀ c ∈ lb r, c < 128 := by
   intro r h0 c hc
   unfold lb at hc
   split at hc
   · rename_i ha
     simp at hc; subst hc
     unfold alnum at ha; simp at ha; omega
   · have hh : ∀ (N m : Nat), m ≤ N → ∀ c ∈ hexI m, c < 128 := by
      intro N
      induction N with
      | zero => intro m hm c hc; rw [hexI_small (by omega)] at hc; simp at hc; subst hc; have := hv_ok (show m < 16 by omega); omega
      | succ N ih =>
       intro m hm c hc
       by_cases h16 : m < 16
       · rw [hexI_small h16] at hc; simp at hc; subst hc; have := hv_ok h16; omega
       · rw [hexI_big h16] at hc
         rcases List.mem_append.1 hc with hc | hc
         · exact ih _ (by omega) c hc
         · simp at hc; subst hc; have := hv_ok (Nat.mod_lt m (show 16 > 0 by decide)); omega
     simp only [List.mem_append, List.mem_cons, List.not_mem_nil, or_false] at hc
     rcases hc with (rfl | rfl | rfl) | hc | rfl
     · decide
     · decide
     · decide
     · exact hh _ _ (Nat.le_refl _) c hc
     · decide
  intro c hc
  obtain ⟨t, ht, hct⟩ := List.mem_flatten.1 hc
  obtain ⟨x, hx, rfl⟩ := List.mem_map.1 ht
  have hs := h x hx
  unfold rI at hct
  split at hct
  · exact hlb _ hs.1.1.1 c hct
  · rcases List.mem_append.1 hct with hct | hct
    · exact hlb _ hs.1.1.1 c hct
    · rcases List.mem_cons.1 hct with rfl | hct
      · decide
      · exact hlb _ hs.2.1.1.1 c hct)
 rw [hasc]
 have h94 : ¬ pk (asc 0 (rsI l)) 0 = 94 := by
  rcases rsI_head h with e | ⟨c, u, e, hc⟩
  · exact absurd e hne
  · rw [pk_asc, e]
    simp
    rcases hc with rfl | hc
    · decide
    · exact (okL_alnum hc).2.2.2.2
 have hlen : l.length ≤ (rsI l).length := by
  have : ∀ l : List (Int × Int), (∀ x ∈ l, Sk x) → l.length ≤ (rsI l).length := by
   intro l
   induction l with
   | nil => intro _; simp
   | cons x l ih => intro h; rw [rsI_cons, List.length_append]; have := rI_pos (h x (by simp)); have := ih (fun y hy => h y (by simp [hy])); simp; omega
  exact this l h
 have key := elsF_rngs (asc 0 (rsI l)) l ((asc 0 (rsI l)).length + 2) 0 [] h (.inr hne) (At.whole _ _) (by rw [asc_len]; omega) (by rw [asc_len]; omega)
 unfold clsF
 rw [if_neg h94, key]
 simp only [List.nil_append]
 rw [if_neg h94, hn, if_neg hne]
end Wd
end Go.Proofs.YtfkmajjgkdjncaaGreatDoor

namespace Go.Proofs.YtfkmajjgkdjncaaGreatDoor
open Go.RowKit De Wd Ru
namespace Pm
section
variable (L : Its) (n : Nat) (cl : Nat → Nat → Cr)
mutual
inductive Alts : Nat → Nat → RE → Nat → Prop
 | mk {d k k1 k2 : Nat} {a e : RE} (h : Alt d k a k1) (r : AltsL d a k1 e k2) : Alts d k e k2
inductive AltsL : Nat → RE → Nat → RE → Nat → Prop
 | stop {d k : Nat} {a : RE} (h : pk L k ≠ 124) : AltsL d a k a k
 | go {d k k1 k2 : Nat} {a b e : RE} (h : pk L k = 124) (p : Alt d (k + 1) b k1) (r : AltsL d (.mk 4 [] [a, b]) k1 e k2) : AltsL d a k e k2
inductive Alt : Nat → Nat → RE → Nat → Prop
 | none {d k : Nat} (h : atm (pk L k) = false) : Alt d k (.mk 1 [] []) k
 | some {d k k1 k2 : Nat} {a e : RE} (h : atm (pk L k) = true) (p : Post d k a k1) (r : AltL d a k1 e k2) : Alt d k e k2
inductive AltL : Nat → RE → Nat → RE → Nat → Prop
 | stop {d k : Nat} {a : RE} (h : atm (pk L k) = false) : AltL d a k a k
 | go {d k k1 k2 : Nat} {a b e : RE} (h : atm (pk L k) = true) (p : Post d k b k1) (r : AltL d (.mk 3 [] [a, b]) k1 e k2) : AltL d a k e k2
inductive Post : Nat → Nat → RE → Nat → Prop
 | mk {d k k1 k2 : Nat} {a e : RE} (h : Atom d k a k1) (r : PostL a k1 e k2) : Post d k e k2
inductive PostL : RE → Nat → RE → Nat → Prop
 | stop {k : Nat} {a : RE} (h : pk L k ≠ 42) : PostL a k a k
 | go {k k2 : Nat} {a e : RE} (h : pk L k = 42) (r : PostL (.mk 5 [] [a]) (k + 1) e k2) : PostL a k e k2
inductive Atom : Nat → Nat → RE → Nat → Prop
 | par {d k k1 : Nat} {e : RE} (h : pk L k = 40) (hd : d < 40) (p : Alts (d + 1) (k + 1) e k1) (h2 : pk L k1 = 41) : Atom d k e (k1 + 1)
 | cls {d k j : Nat} {S : List (Int × Int)} (h : pk L k = 91) (s : ScanC L (k + 1) j) (h2 : pk L j = 93) (c : cl (plc L n k + 1) (plc L n j) = .ok S) : Atom d k (.mk 2 S []) (j + 1)
 | esc {d k j : Nat} {S : List (Int × Int)} (h : pk L k = 92) (h1 : pk L (k + 1) = 117) (s : ScanB L (k + 2) j) (hj : j < L.length) (c : cl (plc L n k) (plc L n (j + 1)) = .ok S) : Atom d k (.mk 2 S []) (j + 1)
 | one {d k : Nat} {r : Int} (h : pk L k = r) (ha : alnum r = true) : Atom d k (.mk 2 [(r, r)] []) (k + 1)
end
end
theorem pk_in {L : Its} {k : Nat} {c : Int} (h : pk L k = c) (hc : 0 ≤ c) : k < L.length := by
 rcases Nat.lt_or_ge k L.length with h1 | h1
 · exact h1
 · rw [pk_end (by omega)] at h; omega
theorem scan_plain {L : Its} : ∀ (t : List Int) (k j : Nat), (∀ c ∈ t, 0 ≤ c ∧ c ≠ 93 ∧ c ≠ 92) → At L k t → ScanC L (k + t.length) j → ScanC L k j := by
 intro t
 induction t with
 | nil => intro k j _ _ h; exact h
 | cons c t ih =>
  intro k j hc hA h
  have h1 := hc c (by simp)
  have e := hA.head
  refine .go (pk_in e h1.1) (by rw [e]; exact h1.2.1) (by rw [e]; exact h1.2.2) (ih (k + 1) j (fun x hx => hc x (by simp [hx])) hA.tail ?_)
  rw [List.length_cons] at h
  rw [show k + 1 + t.length = k + (t.length + 1) by omega]
  exact h
theorem hexI_mem : ∀ (N m : Nat), m ≤ N → ∀ c ∈ hexI m, 48 ≤ c ∧ c ≤ 70 := by
 intro N
 induction N with
 | zero => intro m hm c hc; rw [hexI_small (by omega)] at hc; simp at hc; subst hc; exact hv_ok (show m < 16 by omega)
 | succ N ih =>
  intro m hm c hc
  by_cases h16 : m < 16
  · rw [hexI_small h16] at hc; simp at hc; subst hc; exact hv_ok h16
  · rw [hexI_big h16] at hc
    rcases List.mem_append.1 hc with hc | hc
    · exact ih _ (by omega) c hc
    · simp at hc; subst hc; exact hv_ok (Nat.mod_lt m (show 16 > 0 by decide))
theorem scan_lb {L : Its} {r : Int} (h0 : 0 ≤ r) {k j : Nat} (hA : At L k (lb r)) (h : ScanC L (k + (lb r).length) j) : ScanC L k j := by
 unfold lb at hA h
 split at hA
 · rename_i ha
   rw [if_pos ha] at h
   refine scan_plain [r] k j ?_ hA h
   intro c hc
   simp at hc; subst hc
   unfold alnum at ha; simp at ha; omega
 · rename_i ha
   rw [if_neg ha] at h
   have e0 : pk L k = 92 := hA.head
   have e1 : pk L (k + 1) = 117 := hA.tail.head
   refine .esc (pk_in e1 (by decide)) e0 ?_
   refine scan_plain (123 :: (hexI r.toNat ++ [125])) (k + 2) j ?_ hA.tail.tail ?_
   · intro c hc
     simp only [List.mem_cons, List.mem_append, List.not_mem_nil, or_false] at hc
     rcases hc with rfl | hc | rfl
     · decide
     · have := hexI_mem _ _ (Nat.le_refl _) c hc; omega
     · decide
   · simp only [List.length_append, List.length_cons, List.length_nil] at h ⊢
     rw [show k + 2 + ((hexI r.toNat).length + (0 + 1) + 1) = k + (0 + 1 + 1 + 1 + ((hexI r.toNat).length + (0 + 1))) by omega]
     exact h
theorem scan_rI {L : Its} {x : Int × Int} (hx : Sk x) {k j : Nat} (hA : At L k (rI x)) (h : ScanC L (k + (rI x).length) j) : ScanC L k j := by
 unfold rI at hA h
 split at hA
 · rename_i c; rw [if_pos c] at h; exact scan_lb hx.1.1.1 hA h
 · rename_i c
   rw [if_neg c] at h
   refine scan_lb hx.1.1.1 hA.left (scan_plain [45] _ j (by intro c hc; simp at hc; subst hc; decide) (At.left (t := lb x.2) hA.right) ?_)
   refine scan_lb hx.2.1.1.1 hA.right.tail ?_
   simp only [List.length_append, List.length_cons] at h
   simp only [List.length_singleton]
   rw [show k + (lb x.1).length + 1 + (lb x.2).length = k + ((lb x.1).length + ((lb x.2).length + 1)) by omega]
   exact h
theorem scan_rsI {L : Its} : ∀ (l : List (Int × Int)) (k j : Nat), (∀ x ∈ l, Sk x) → At L k (rsI l) → ScanC L (k + (rsI l).length) j → ScanC L k j := by
 intro l
 induction l with
 | nil => intro k j _ _ h; exact h
 | cons x l ih =>
  intro k j hx hA h
  rw [rsI_cons] at hA h
  refine scan_rI (hx x (by simp)) hA.left (ih _ j (fun y hy => hx y (by simp [hy])) hA.right ?_)
  rw [List.length_append] at h
  rw [Nat.add_assoc]; exact h
theorem scan_num {L : Its} : ∀ (t : List Int) (k : Nat) (u : List Int), (∀ c ∈ t, 0 ≤ c ∧ c ≠ 125) → At L k (t ++ 125 :: u) → ScanB L k (k + t.length) := by
 intro t
 induction t with
 | nil => intro k u _ hA; exact .stop (fun _ => hA.head)
 | cons c t ih =>
  intro k u hc hA
  have h1 := hc c (by simp)
  have e := hA.head
  have := ih (k + 1) u (fun x hx => hc x (by simp [hx])) hA.tail
  rw [List.length_cons, show k + (t.length + 1) = k + 1 + t.length by omega]
  exact .go (pk_in e h1.1) (by rw [e]; exact h1.2) this
structure Plain (L : Its) (n : Nat) (cl : Nat → Nat → Cr) : Prop where
 plc : ∀ k, k ≤ L.length → plc L n k = k
 cl : ∀ (k : Nat) (t : List Int), At L k t → k + t.length ≤ L.length → cl k (k + t.length) = clsF (all 0 t) t.length
theorem at_le {L : Its} : ∀ (t : List Int) (k : Nat), (∀ c ∈ t, 0 ≤ c) → At L k t → k ≤ L.length → k + t.length ≤ L.length := by
 intro t
 induction t with
 | nil => intro k _ _ h; simpa using h
 | cons c t ih =>
  intro k hc hA h
  have := pk_in hA.head (hc c (by simp))
  have := ih (k + 1) (fun x hx => hc x (by simp [hx])) hA.tail (by omega)
  rw [List.length_cons]; omega
theorem sb_pos (s : ByteArray) : ∀ c ∈ sb s, 0 ≤ c := by
 intro c hc
 unfold sb at hc
 obtain ⟨b, _, rfl⟩ := List.mem_map.1 hc
 omega
theorem sb_cat : ∀ l : List (Int × Int), (∀ x ∈ l, Sk x) → sb (catB (l.map rngB)) = rsI l := by
 intro l
 induction l with
 | nil => intro _; rfl
 | cons x l ih =>
  intro h
  rw [rsI_cons, ← ih (fun y hy => h y (by simp [hy])), ← sb_rng (h x (by simp))]
  simp [sb, catB]
structure SetOk (l : List (Int × Int)) : Prop where
 sk : ∀ x ∈ l, Sk x
 ne : l ≠ []
 nf : Ru.nrm l = l
theorem setOk_of {l : List (Int × Int)} (h : Ru.mayB l = true) (hne : l ≠ []) : SetOk l := by
 refine ⟨fun x hx => ?_, hne, ((Ru.may_nrm l).1 h).symm⟩
 obtain ⟨i, hi, rfl⟩ := List.getElem_of_mem hx
 have := ((Ru.mayB_iff l).1 h i hi).1
 have e : l.getD i (0, 0) = l[i] := by simp [List.getD, hi]
 rw [e] at this
 unfold Ru.okR at this
 simp [Ru.scal] at this
 unfold Sk
 omega
theorem atom_set {L : Its} {n : Nat} {cl : Nat → Nat → Cr} (hP : Plain L n cl) {l : List (Int × Int)} (hl : SetOk l) {d k : Nat} (hk : k ≤ L.length) (hA : At L k (sb (setB l))) : Atom L n cl d k (.mk 2 l []) (k + (sb (setB l)).length) := by
 have hle := at_le _ k (sb_pos (setB l)) hA hk
 by_cases h1 : l.length = 1 ∧ (l.getD 0 (0, 0)).1 = (l.getD 0 (0, 0)).2
 · have hs : setB l = letB (l.getD 0 (0, 0)).1 := if_pos h1
   obtain ⟨x, rfl⟩ := List.length_eq_one_iff.1 h1.1
   have hx := hl.sk x (by simp)
   have hxx : x.1 = x.2 := h1.2
   have hs2 : setB [x] = letB x.1 := hs
   rw [hs2, sb_let hx.1.1.1] at hA hle ⊢
   have hxe : [x] = [(x.1, x.1)] := by obtain ⟨a, b⟩ := x; simp at hxx; subst hxx; rfl
   by_cases ha : alnum x.1 = true
   · have e : lb x.1 = [x.1] := by unfold lb; rw [if_pos ha]
     rw [e] at hA ⊢
     rw [hxe]
     exact .one hA.head ha
   · have e : lb x.1 = [92, 117, 123] ++ (hexI x.1.toNat ++ [125]) := by unfold lb; rw [if_neg ha]
     have hrs : rsI [x] = lb x.1 := by rw [rsI_cons]; unfold rI; rw [if_pos hxx]; simp [rsI]
     have hc := hP.cl k (lb x.1) hA hle
     rw [← hrs, clsF_rngs [x] _ hl.sk hl.ne hl.nf] at hc
     rw [hrs] at hc
     have hA2 := hA
     rw [e] at hA2
     have h92 : pk L k = 92 := hA2.head
     have h117 : pk L (k + 1) = 117 := hA2.tail.head
     have hB : At L (k + 2) ((123 :: hexI x.1.toNat) ++ 125 :: []) := hA2.tail.tail
     have hs3 := scan_num (123 :: hexI x.1.toNat) (k + 2) [] (by
      intro c hc
      rcases List.mem_cons.1 hc with rfl | hc
      · decide
      · have := hexI_mem _ _ (Nat.le_refl _) c hc; omega) hB
     have hlen : (lb x.1).length = 4 + (hexI x.1.toNat).length := by rw [e]; simp; omega
     have hj : k + 2 + (123 :: hexI x.1.toNat).length + 1 = k + (lb x.1).length := by rw [hlen]; simp; omega
     rw [← hj]
     refine .esc h92 h117 hs3 (by omega) ?_
     rw [hP.plc _ (by omega), hP.plc _ (by omega), hj]
     exact hc
 · have hs : setB l = (⟨#[91]⟩ ++ catB (l.map rngB)) ++ ⟨#[93]⟩ := if_neg h1
   have e : sb (setB l) = 91 :: (rsI l ++ [93]) := by rw [hs, sb_app, sb_app, sb_cat l hl.sk]; rfl
   rw [e] at hA hle ⊢
   have h91 : pk L k = 91 := hA.head
   have hB : At L (k + 1) (rsI l ++ [93]) := hA.tail
   have h93 : pk L (k + 1 + (rsI l).length) = 93 := hB.right.head
   have hlen : (91 :: (rsI l ++ [93])).length = (rsI l).length + 2 := by simp
   rw [hlen] at hle ⊢
   have hc := hP.cl (k + 1) (rsI l) hB.left (by omega)
   rw [clsF_rngs l _ hl.sk hl.ne hl.nf] at hc
   rw [show k + ((rsI l).length + 2) = k + 1 + (rsI l).length + 1 by omega]
   refine .cls h91 (scan_rsI l _ _ hl.sk hB.left (.stop fun _ => h93)) h93 ?_
   rw [hP.plc _ (by omega), hP.plc _ (by omega)]
   exact hc
theorem atm_not {r : Int} (h : atm r = true) : r ≠ 42 ∧ r ≠ 124 ∧ r ≠ 41 := by
 refine ⟨?_, ?_, ?_⟩ <;> (rintro rfl; revert h; decide)
theorem atm_alnum {r : Int} (h : alnum r = true) : atm r = true := by
 unfold alnum at h
 simp at h
 unfold atm noR inR
 simp
 omega
theorem sb_hold (t : ByteArray) (m : Bool) : sb (hold t m) = if m = true then 40 :: (sb t ++ [41]) else sb t := by
 unfold hold
 split
 · rw [sb_app, sb_app]; rfl
 · rfl
section
variable {L : Its} {n : Nat} {cl : Nat → Nat → Cr}
theorem atom_atm {d k k' : Nat} {e : RE} (h : Atom L n cl d k e k') : atm (pk L k) = true := by
 cases h with
 | par h _ _ _ => rw [h]; decide
 | cls h _ _ _ => rw [h]; decide
 | esc h _ _ _ _ => rw [h]; decide
 | one h ha => rw [h]; exact atm_alnum ha
theorem post_atm {d k k' : Nat} {e : RE} (h : Post L n cl d k e k') : atm (pk L k) = true := by
 cases h with
 | mk h _ => exact atom_atm h
def PreP (L : Its) (n : Nat) (cl : Nat → Nat → Cr) (e : RE) (d k m : Nat) : Prop := ∃ a k0, Atom L n cl d k a k0 ∧ ∀ e' k', PostL L n cl e (k + m) e' k' → PostL L n cl a k0 e' k'
def PreQ (L : Its) (n : Nat) (cl : Nat → Nat → Cr) (e : RE) (d k m : Nat) : Prop := ∃ a k0, Post L n cl d k a k0 ∧ ∀ e' k', AltL L n cl d e (k + m) e' k' → AltL L n cl d a k0 e' k'
def PreA (L : Its) (n : Nat) (cl : Nat → Nat → Cr) (e : RE) (d k m : Nat) : Prop := ∃ a k0, Alt L n cl d k a k0 ∧ ∀ e' k', AltsL L n cl d e (k + m) e' k' → AltsL L n cl d a k0 e' k'
theorem PreP.post {e : RE} {d k m : Nat} (h : PreP L n cl e d k m) (hn : pk L (k + m) ≠ 42) : Post L n cl d k e (k + m) := by
 obtain ⟨a, k0, ha, hc⟩ := h
 exact .mk ha (hc _ _ (.stop hn))
theorem PreP.q {e : RE} {d k m : Nat} (h : PreP L n cl e d k m) (hn : pk L (k + m) ≠ 42) : PreQ L n cl e d k m := ⟨e, k + m, h.post hn, fun _ _ h => h⟩
theorem PreQ.alt {e : RE} {d k m : Nat} (h : PreQ L n cl e d k m) (ha : atm (pk L (k + m)) = false) : Alt L n cl d k e (k + m) := by
 obtain ⟨a, k0, hp, hc⟩ := h
 exact .some (post_atm hp) hp (hc _ _ (.stop ha))
theorem PreQ.a {e : RE} {d k m : Nat} (h : PreQ L n cl e d k m) (ha : atm (pk L (k + m)) = false) : PreA L n cl e d k m := ⟨e, k + m, h.alt ha, fun _ _ h => h⟩
theorem PreA.alts {e : RE} {d k m : Nat} (h : PreA L n cl e d k m) (ha : pk L (k + m) ≠ 124) : Alts L n cl d k e (k + m) := by
 obtain ⟨a, k0, hp, hc⟩ := h
 exact .mk hp (hc _ _ (.stop ha))
theorem PreA.held {e : RE} {d k m : Nat} (hd : d < 40) (h40 : pk L k = 40) (h41 : pk L (k + 1 + m) = 41) (h : PreA L n cl e (d + 1) (k + 1) m) : PreP L n cl e d k (m + 2) :=
 ⟨e, k + 1 + m + 1, .par h40 hd (h.alts (by rw [h41]; decide)) h41, fun e' k' hp => by rw [show k + 1 + m + 1 = k + (m + 2) by omega]; exact hp⟩
def PT' (e : RE) : List Int := sb (hold e.text ([3, 4].contains e.kind))
def QT (e : RE) : List Int := sb (hold e.text ([4].contains e.kind))
structure RT (L : Its) (n : Nat) (cl : Nat → Nat → Cr) (e : RE) : Prop where
 P : ∀ d k, 2 * e.dep + d ≤ 40 → k ≤ L.length → At L k (PT' e) → PreP L n cl e d k (PT' e).length
 Q : ∀ d k, 2 * e.dep + d ≤ 40 → k ≤ L.length → At L k (QT e) → pk L (k + (QT e).length) ≠ 42 → PreQ L n cl e d k (QT e).length
 A : ∀ d k, 2 * e.dep + d ≤ 41 → k ≤ L.length → At L k (sb e.text) → pk L (k + (sb e.text).length) ≠ 42 → atm (pk L (k + (sb e.text).length)) = false → PreA L n cl e d k (sb e.text).length
theorem len2 {α : Type} {l : List α} (h : l.length = 2) : ∃ a b, l = [a, b] := by
 match l, h with
 | [a, b], _ => exact ⟨a, b, rfl⟩
theorem full0 {e : RE} (h : e.shp = true) (hk : e.kind ≠ 2) : e = .mk e.kind [] e.parts := by
 have hs : e.set = [] := by
  unfold RE.shp at h
  rw [if_neg hk] at h
  split at h
  · cases h
  · exact List.length_eq_zero_iff.1 (by omega)
 obtain ⟨k, s, l⟩ := e
 cases hs
 rfl
theorem full2 {e : RE} (h : e.shp = true) (hk : e.kind = 2) : e = .mk 2 e.set [] ∧ e.set ≠ [] ∧ Ru.mayB e.set = true := by
 have h2 := h
 unfold RE.shp at h2
 rw [if_pos hk] at h2
 simp only [Bool.and_eq_true, decide_eq_true_eq] at h2
 refine ⟨?_, fun e0 => ?_, h2.2.2.1⟩
 · have hl := List.length_eq_zero_iff.1 h2.2.2.2
   obtain ⟨k, s, l⟩ := e
   cases hk
   cases hl
   rfl
 · rw [e0] at h2; simp at h2
theorem nn_part {e p : RE} (h : e.nn = false) (hp : p ∈ e.parts) : p.nn = false := by
 cases hq : p.nn with
 | false => rfl
 | true =>
  have := (RE.nnL_iff e.parts).2 ⟨p, hp, hq⟩
  rw [RE.nn_eq, this] at h
  simp at h
theorem cont_swap (k : Int) : ([4, 3] : List Int).contains k = ([3, 4] : List Int).contains k := by
 simp [Bool.or_comm]
theorem dep_part {e p : RE} (h : p ∈ e.parts) : p.dep + 1 ≤ e.dep := by
 have hd := e.dep_eq
 have : ∀ l : List RE, p ∈ l → p.dep ≤ RE.deps l := by
  intro l
  induction l with
  | nil => intro h; simp at h
  | cons a l ih =>
   intro h
   rw [RE.deps_cons]
   rcases List.mem_cons.1 h with rfl | h
   · omega
   · have := ih h; omega
 have := this _ h
 omega
def OwnP (L : Its) (n : Nat) (cl : Nat → Nat → Cr) (e : RE) : Prop := ∀ d k, 2 * e.dep + d ≤ 41 → k ≤ L.length → At L k (sb e.text) → PreP L n cl e d k (sb e.text).length
def OwnQ (L : Its) (n : Nat) (cl : Nat → Nat → Cr) (e : RE) : Prop := ∀ d k, 2 * e.dep + d ≤ 41 → k ≤ L.length → At L k (sb e.text) → pk L (k + (sb e.text).length) ≠ 42 → PreQ L n cl e d k (sb e.text).length
def OwnA (L : Its) (n : Nat) (cl : Nat → Nat → Cr) (e : RE) : Prop := ∀ d k, 2 * e.dep + d ≤ 41 → k ≤ L.length → At L k (sb e.text) → pk L (k + (sb e.text).length) ≠ 42 → atm (pk L (k + (sb e.text).length)) = false → PreA L n cl e d k (sb e.text).length
theorem OwnP.q {e : RE} (h : OwnP L n cl e) : OwnQ L n cl e := fun d k hd hk hA hn => (h d k hd hk hA).q hn
theorem OwnQ.a {e : RE} (h : OwnQ L n cl e) : OwnA L n cl e := fun d k hd hk hA hn ha => (h d k hd hk hA hn).a ha
theorem OwnA.held {e : RE} (h : OwnA L n cl e) {d k : Nat} (hd : 2 * e.dep + d ≤ 40) (hk : k ≤ L.length) (hA : At L k (40 :: (sb e.text ++ [41]))) : PreP L n cl e d k (40 :: (sb e.text ++ [41])).length := by
 have h40 : pk L k = 40 := hA.head
 have hB : At L (k + 1) (sb e.text ++ [41]) := hA.tail
 have h41 : pk L (k + 1 + (sb e.text).length) = 41 := hB.right.head
 have := h (d + 1) (k + 1) (by omega) (by have := pk_in h40 (by decide); omega) hB.left (by rw [h41]; decide) (by rw [h41]; decide)
 have hde := e.dep_eq
 have e1 : (40 :: (sb e.text ++ [41])).length = (sb e.text).length + 2 := by simp
 rw [e1]
 exact PreA.held (by omega) h40 h41 this
theorem RT.of {e : RE} (hA : OwnA L n cl e) (hP : ([3, 4] : List Int).contains e.kind = false → OwnP L n cl e) (hQ : ([4] : List Int).contains e.kind = false → OwnQ L n cl e) : RT L n cl e := by
 refine ⟨?_, ?_, ?_⟩
 · intro d k hd hk h
   unfold PT' at h ⊢
   rw [sb_hold] at h ⊢
   split at h
   · rename_i c; rw [if_pos c]; exact hA.held hd hk h
   · rename_i c; rw [if_neg c]; exact hP (by simpa using c) d k (by omega) hk h
 · intro d k hd hk h hn
   unfold QT at h hn ⊢
   rw [sb_hold] at h hn ⊢
   split at h
   · rename_i c; rw [if_pos c] at hn ⊢; exact (hA.held hd hk h).q hn
   · rename_i c; rw [if_neg c] at hn ⊢; exact hQ (by simpa using c) d k (by omega) hk h hn
 · intro d k hd hk h hn ha
   exact hA d k hd hk h hn ha
theorem text3 (p q : RE) : sb (RE.mk 3 [] [p, q]).text = sb (hold p.text ([4].contains p.kind)) ++ sb (hold q.text ([3, 4].contains q.kind)) := by
 rw [RE.text_eq, ← sb_app, ← cont_swap]; rfl
theorem text4 (p q : RE) : sb (RE.mk 4 [] [p, q]).text = sb p.text ++ 124 :: sb (hold q.text ([4].contains q.kind)) := by
 rw [RE.text_eq]
 show sb ((p.text ++ ⟨#[124]⟩) ++ hold q.text ([4].contains q.kind)) = _
 rw [sb_app, sb_app, List.append_assoc]; rfl
theorem text5 (p : RE) : sb (RE.mk 5 [] [p]).text = sb (hold p.text ([3, 4].contains p.kind)) ++ [42] := by
 rw [RE.text_eq]
 show sb (hold p.text ([3, 4].contains p.kind) ++ ⟨#[42]⟩) = _
 rw [sb_app]; rfl
theorem rt_all (hP : Plain L n cl) : ∀ (N : Nat) (e : RE), e.size ≤ N → e.prt = true → e.nn = false → RT L n cl e := by
 intro N
 induction N with
 | zero => intro e h; have := e.size_pos; omega
 | succ N ih =>
  intro e hs hp hn
  have hsh := RE.prt_shp hp
  have part : ∀ p ∈ e.parts, RT L n cl p ∧ p.dep + 1 ≤ e.dep := by
   intro p hm
   obtain ⟨i, hi, rfl⟩ := List.getElem_of_mem hm
   have hg : e.parts[i]? = some e.parts[i] := by simp [hi]
   exact ⟨ih _ (by have := RE.size_part hg; omega) (RE.prt_part hp hg) (nn_part hn hm), dep_part hm⟩
  rcases RE.shp_cases hsh with h0 | h1 | h2 | h3 | h4 | h5
  · rw [RE.nn_eq, h0] at hn; simp at hn
  ·
   have e1 := full0 hsh (by omega)
   have hl : e.parts = [] := by
    unfold RE.shp at hsh
    rw [if_neg (by omega)] at hsh
    split at hsh
    · cases hsh
    · rw [if_pos (.inr h1)] at hsh
      exact List.length_eq_zero_iff.1 (by simpa using hsh)
   rw [h1, hl] at e1
   have hO : OwnP L n cl e := by
    intro d k hd hk hA
    have ht : sb e.text = [40, 41] := by rw [e1, RE.text_eq]; rfl
    rw [ht] at hA ⊢
    have h40 : pk L k = 40 := hA.head
    have h41 : pk L (k + 1) = 41 := hA.tail.head
    have hdep := e.dep_eq
    refine ⟨e, k + 1 + 1, .par h40 (by omega) (.mk ?_ (.stop ?_)) h41, fun _ _ h => h⟩
    · rw [e1]; exact .none (by rw [h41]; decide)
    · rw [h41]; decide
   exact .of hO.q.a (fun _ => hO) (fun _ => hO.q)
  ·
   obtain ⟨e2, hne, hm⟩ := full2 hsh h2.1
   have hO : OwnP L n cl e := by
    intro d k hd hk hA
    have ht : e.text = setB e.set := by rw [RE.text_eq, h2.1]; rfl
    rw [ht] at hA ⊢
    refine ⟨e, k + (sb (setB e.set)).length, ?_, fun _ _ h => h⟩
    rw [e2]
    exact atom_set hP (setOk_of hm hne) hk hA
   exact .of hO.q.a (fun _ => hO) (fun _ => hO.q)
  ·
   have e3 := full0 hsh (by omega)
   obtain ⟨p, q, hl⟩ := len2 h3.2
   rw [h3.1, hl] at e3
   obtain ⟨rp, dp⟩ := part p (by rw [hl]; simp)
   obtain ⟨rq, dq⟩ := part q (by rw [hl]; simp)
   have hO : OwnQ L n cl e := by
    intro d k hd hk hA hn2
    have ht : sb e.text = QT p ++ PT' q := by rw [e3, text3]; rfl
    rw [ht] at hA hn2 ⊢
    rw [List.length_append] at hn2 ⊢
    rw [← Nat.add_assoc] at hn2
    have hk2 : k + (QT p).length ≤ L.length := at_le _ k (sb_pos _) hA.left hk
    have hq := rq.P d (k + (QT p).length) (by omega) hk2 hA.right
    obtain ⟨a, k0, ha, hc⟩ := rp.Q d k (by omega) hk hA.left (by
     obtain ⟨x, kx, hx, _⟩ := hq
     exact (atm_not (atom_atm hx)).1)
    have hat : atm (pk L (k + (QT p).length)) = true := by
     obtain ⟨x, kx, hx, _⟩ := hq
     exact atom_atm hx
    refine ⟨a, k0, ha, fun e' k' h => hc e' k' (.go hat (hq.post hn2) ?_)⟩
    rw [← e3, Nat.add_assoc k]
    exact h
   exact .of hO.a (fun c => by rw [h3.1] at c; exact absurd c (by decide)) (fun _ => hO)
  ·
   have e4 := full0 hsh (by omega)
   obtain ⟨p, q, hl⟩ := len2 h4.2
   rw [h4.1, hl] at e4
   obtain ⟨rp, dp⟩ := part p (by rw [hl]; simp)
   obtain ⟨rq, dq⟩ := part q (by rw [hl]; simp)
   have hO : OwnA L n cl e := by
    intro d k hd hk hA hn2 ha2
    have ht : sb e.text = sb p.text ++ 124 :: QT q := by rw [e4, text4]; rfl
    rw [ht] at hA hn2 ha2 ⊢
    have e1 : k + (sb p.text ++ 124 :: QT q).length = k + (sb p.text).length + 1 + (QT q).length := by simp; omega
    rw [e1] at hn2 ha2
    have h124 : pk L (k + (sb p.text).length) = 124 := hA.right.head
    have hk2 := pk_in h124 (by decide)
    have hq := rq.Q d (k + (sb p.text).length + 1) (by omega) (by omega) hA.right.tail hn2
    obtain ⟨a, k0, ha, hc⟩ := rp.A d k (by omega) hk hA.left (by rw [h124]; decide) (by rw [h124]; decide)
    refine ⟨a, k0, ha, fun e' k' h => hc e' k' (.go h124 (hq.alt ha2) ?_)⟩
    rw [← e4, ← e1]
    exact h
   exact .of hO (fun c => by rw [h4.1] at c; exact absurd c (by decide)) (fun c => by rw [h4.1] at c; exact absurd c (by decide))
  ·
   have e5 := full0 hsh (by omega)
   obtain ⟨p, hl⟩ := List.length_eq_one_iff.1 h5.2
   rw [h5.1, hl] at e5
   obtain ⟨rp, dp⟩ := part p (by rw [hl]; simp)
   have hO : OwnP L n cl e := by
    intro d k hd hk hA
    have ht : sb e.text = PT' p ++ [42] := by rw [e5, text5]; rfl
    rw [ht] at hA ⊢
    have h42 : pk L (k + (PT' p).length) = 42 := hA.right.head
    obtain ⟨a, k0, ha, hc⟩ := rp.P d k (by omega) hk hA.left
    refine ⟨a, k0, ha, fun e' k' h => hc e' k' (.go h42 ?_)⟩
    rw [← e5]
    rw [List.length_append, ← Nat.add_assoc] at h
    exact h
   exact .of hO.q.a (fun _ => hO) (fun _ => hO.q)
theorem reads (hP : Plain L n cl) {e : RE} (h1 : e.prt = true) (h2 : e.nn = false) (h3 : e.dep ≤ 20) (hA : At L 0 (sb e.text)) (hL : L.length = (sb e.text).length) : Alts L n cl 0 0 e L.length := by
 have hend : pk L (sb e.text).length = -1 := pk_end (by omega)
 have := (rt_all hP e.size e (Nat.le_refl _) h1 h2).A 0 0 (by omega) (by omega) hA (by rw [Nat.zero_add, hend]; decide) (by rw [Nat.zero_add, hend]; decide)
 have := this.alts (by rw [Nat.zero_add, hend]; decide)
 rw [Nat.zero_add] at this
 rw [hL]
 exact this
end
end Pm
end Go.Proofs.YtfkmajjgkdjncaaGreatDoor
