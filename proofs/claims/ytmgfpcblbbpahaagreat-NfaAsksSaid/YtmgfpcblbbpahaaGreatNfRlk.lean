/- goboref6.link: behind each of some stand others. -/
import Derived.Test.YtmgfpcblbbpahaaGreatNfRru
import Derived.RegionTactic
import Derived.Deep.RegionHeld3
set_option linter.unusedVariables false
set_option linter.unusedSimpArgs false
namespace Go.Proofs.YtmgfpcblbbpahaaGreat
open Go.RowKit Ru Rn Rn.Ru

theorem ris_pw : ∀ (l : List Int) (b : Int), Ris b l → l.Pairwise (· < ·)
  | [], _, _ => List.Pairwise.nil
  | x :: l, b, h => List.pairwise_cons.2 ⟨fun y hy => Ris.above h.2 y hy, ris_pw l x h.2⟩
theorem mem_dnIn (S : List (List Pc)) (r : Int) : ∀ (f o : List Int) (z : Int), z ∈ dnIn S r o f ↔ z ∈ o ∨ (z ∈ f ∧ has (S.getD z.toNat []) r = true)
  | [], o, z => by simp [dnIn]
  | y :: f, o, z => by
    have ih := mem_dnIn S r f (if has (S.getD y.toNat []) r = true then insD y o else o) z
    have e : dnIn S r o (y :: f) = dnIn S r (if has (S.getD y.toNat []) r = true then insD y o else o) f := rfl
    rw [e, ih]
    by_cases hh : has (S.getD y.toNat []) r = true
    · rw [if_pos hh, mem_insD]
      constructor
      · rintro ((rfl | h) | h)
        · exact .inr ⟨by simp, hh⟩
        · exact .inl h
        · exact .inr ⟨List.mem_cons_of_mem _ h.1, h.2⟩
      · rintro (h | ⟨h1, h2⟩)
        · exact .inl (.inr h)
        · rcases List.mem_cons.1 h1 with rfl | h3
          · exact .inl (.inl rfl)
          · exact .inr ⟨h3, h2⟩
    · rw [if_neg hh]
      constructor
      · rintro (h | h)
        · exact .inl h
        · exact .inr ⟨List.mem_cons_of_mem _ h.1, h.2⟩
      · rintro (h | ⟨h1, h2⟩)
        · exact .inl h
        · rcases List.mem_cons.1 h1 with rfl | h3
          · exact absurd h2 hh
          · exact .inr ⟨h3, h2⟩
theorem mem_dnF (S : List (List Pc)) (F : List (List Int)) (r : Int) : ∀ (l o : List Int) (z : Int), z ∈ l.foldl (fun o x => if 0 ≤ x ∧ x < (S.length : Int) then dnIn S r o (F.getD x.toNat []) else o) o ↔ z ∈ o ∨ ((∃ s, s ∈ l ∧ 0 ≤ s ∧ s < (S.length : Int) ∧ z ∈ F.getD s.toNat []) ∧ has (S.getD z.toNat []) r = true)
  | [], o, z => by simp
  | x :: l, o, z => by
    rw [List.foldl_cons, mem_dnF S F r l]
    by_cases hx : 0 ≤ x ∧ x < (S.length : Int)
    · rw [if_pos hx, mem_dnIn]
      constructor
      · rintro ((h | h) | ⟨⟨s, h1, h2⟩, h3⟩)
        · exact .inl h
        · exact .inr ⟨⟨x, List.mem_cons_self .., hx.1, hx.2, h.1⟩, h.2⟩
        · exact .inr ⟨⟨s, List.mem_cons_of_mem _ h1, h2⟩, h3⟩
      · rintro (h | ⟨⟨s, h1, h2⟩, h3⟩)
        · exact .inl (.inl h)
        · rcases List.mem_cons.1 h1 with rfl | h4
          · exact .inl (.inr ⟨h2.2.2, h3⟩)
          · exact .inr ⟨⟨s, h4, h2⟩, h3⟩
    · rw [if_neg hx]
      constructor
      · rintro (h | ⟨⟨s, h1, h2⟩, h3⟩)
        · exact .inl h
        · exact .inr ⟨⟨s, List.mem_cons_of_mem _ h1, h2⟩, h3⟩
      · rintro (h | ⟨⟨s, h1, h2⟩, h3⟩)
        · exact .inl h
        · rcases List.mem_cons.1 h1 with rfl | h4
          · exact absurd ⟨h2.1, h2.2.1⟩ hx
          · exact .inr ⟨⟨s, h4, h2⟩, h3⟩
theorem dn_next (S : List (List Pc)) (F : List (List Int)) (r : Int) (l : List Int) (hlen : F.length = S.length) (hF : ∀ f ∈ F, ∀ y ∈ f, 0 ≤ y ∧ y < (S.length : Int)) : dnOut S F r l = nextL S F l r := by
  have h1 := (dnOut_ok S F r hF l l.length (Nat.le_refl _)).1
  rw [List.take_length] at h1
  refine Nf.asc_ext (ris_pw _ _ h1) ((Nf.ord_lt _).filter _) fun z => ?_
  rw [show (z ∈ dnOut S F r l) = (z ∈ l.foldl (fun o x => if 0 ≤ x ∧ x < (S.length : Int) then dnIn S r o (F.getD x.toNat []) else o) []) from rfl, mem_dnF, Nf.mem_next, hlen]
  simp
end Go.Proofs.YtmgfpcblbbpahaaGreat

namespace Go.Proofs.YtmgfpcblbbpahaaGreat
open Go.RowKit Ru Rn Rn.Ru

theorem mem_rlEm (Em : List Bool) (o : List Int) (z : Int) : ∀ k, z ∈ rlEm Em o k ↔ z ∈ o ∨ ∃ j : Nat, j < k ∧ Em.getD j false = true ∧ z = (j : Int)
  | 0 => by simp [rlEm]
  | k + 1 => by
    rw [rlEm_next]
    by_cases hk : Em.getD k false = true
    · rw [if_pos hk, mem_insD, mem_rlEm Em o z k]
      constructor
      · rintro (rfl | h | ⟨j, h1, h2⟩)
        · exact .inr ⟨k, by omega, hk, rfl⟩
        · exact .inl h
        · exact .inr ⟨j, by omega, h2⟩
      · rintro (h | ⟨j, h1, h2, h3⟩)
        · exact .inr (.inl h)
        · by_cases hj : j = k
          · exact .inl (by rw [h3, hj])
          · exact .inr (.inr ⟨j, by omega, h2, h3⟩)
    · rw [if_neg hk, mem_rlEm Em o z k]
      constructor
      · rintro (h | ⟨j, h1, h2⟩)
        · exact .inl h
        · exact .inr ⟨j, by omega, h2⟩
      · rintro (h | ⟨j, h1, h2, h3⟩)
        · exact .inl h
        · by_cases hj : j = k
          · subst hj; exact absurd h2 hk
          · exact .inr ⟨j, by omega, h2, h3⟩
def rlSays (n : Nat) (O : List Int) (L Em : List Bool) (p z : Int) : Prop := (0 < p ∧ p < (n : Int) ∧ L.getD p.toNat false = true ∧ z = O.getD p.toNat 0) ∨ (p = 0 ∧ ∃ j : Nat, j < Em.length ∧ Em.getD j false = true ∧ z = (j : Int))
theorem mem_rlOne (n : Nat) (O : List Int) (L : List Bool) (o : List Int) (p z : Int) : z ∈ rlOne n O L o p ↔ z ∈ o ∨ (0 < p ∧ p < (n : Int) ∧ L.getD p.toNat false = true ∧ z = O.getD p.toNat 0) := by
  unfold rlOne
  by_cases h : 0 < p ∧ p < (n : Int) ∧ L.getD p.toNat false = true
  · rw [if_pos h, mem_insD]
    constructor
    · rintro (h1 | h1)
      · exact .inr ⟨h.1, h.2.1, h.2.2, h1⟩
      · exact .inl h1
    · rintro (h1 | h1)
      · exact .inr h1
      · exact .inl h1.2.2.2
  · rw [if_neg h]
    exact ⟨.inl, fun h1 => h1.elim id fun h2 => absurd ⟨h2.1, h2.2.1, h2.2.2.1⟩ h⟩
theorem mem_rlStep (n : Nat) (O : List Int) (L Em : List Bool) (o : List Int) (p z : Int) : z ∈ rlStep n O L Em o p ↔ z ∈ o ∨ rlSays n O L Em p z := by
  unfold rlStep rlSays
  by_cases h : p = 0
  · rw [if_pos h, mem_rlEm, mem_rlOne]
    constructor
    · rintro ((h1 | h1) | h1)
      · exact .inl h1
      · exact .inr (.inl h1)
      · exact .inr (.inr ⟨h, h1⟩)
    · rintro (h1 | h1 | h1)
      · exact .inl (.inl h1)
      · exact .inl (.inr h1)
      · exact .inr h1.2
  · rw [if_neg h, mem_rlOne]
    constructor
    · rintro (h1 | h1)
      · exact .inl h1
      · exact .inr (.inl h1)
    · rintro (h1 | h1 | h1)
      · exact .inl h1
      · exact .inr h1
      · exact absurd h1.1 h
theorem mem_rlF (n : Nat) (O : List Int) (L Em : List Bool) (z : Int) : ∀ (l o : List Int), z ∈ l.foldl (rlStep n O L Em) o ↔ z ∈ o ∨ ∃ s, s ∈ l ∧ rlSays n O L Em s z
  | [], o => by simp
  | x :: l, o => by
    rw [List.foldl_cons, mem_rlF n O L Em z l, mem_rlStep]
    constructor
    · rintro ((h | h) | ⟨s, h1, h2⟩)
      · exact .inl h
      · exact .inr ⟨x, List.mem_cons_self .., h⟩
      · exact .inr ⟨s, List.mem_cons_of_mem _ h1, h2⟩
    · rintro (h | ⟨s, h1, h2⟩)
      · exact .inl (.inl h)
      · rcases List.mem_cons.1 h1 with rfl | h3
        · exact .inl (.inr h2)
        · exact .inr ⟨s, h3, h2⟩
theorem rl_rules (n : Nat) (O : List Int) (L Em : List Bool) (E : List (List Int)) (l : List Int) (hn : 0 < n) (hE : E.length = n) (hO : ∀ p, 0 < p → p < n → 0 ≤ O.getD p 0 ∧ O.getD p 0 < (Em.length : Int))
    (h0 : ∀ z, z ∈ E.getD 0 [] ↔ ∃ j : Nat, j < Em.length ∧ Em.getD j false = true ∧ z = (j : Int)) (hp : ∀ p, 0 < p → p < n → ∀ z, z ∈ E.getD p [] ↔ L.getD p false = true ∧ z = O.getD p 0) :
    rlOut n O L Em l = Nf.gat E l := by
  have h1 := (rlOut_ok n O L Em hO l l.length (Nat.le_refl _)).1
  rw [List.take_length] at h1
  refine Nf.asc_ext (ris_pw _ _ h1) (Nf.ord_lt _) fun z => ?_
  rw [show (z ∈ rlOut n O L Em l) = (z ∈ l.foldl (rlStep n O L Em) []) from rfl, mem_rlF, Nf.mem_gat, hE]
  constructor
  · rintro (h | ⟨s, hs, ⟨a, b, c, d⟩ | ⟨rfl, d⟩⟩)
    · simp at h
    · exact ⟨s, hs, by omega, b, (hp s.toNat (by omega) (by omega) z).2 ⟨c, d⟩⟩
    · exact ⟨0, hs, by omega, by omega, (h0 z).2 d⟩
  · rintro ⟨s, hs, a, b, c⟩
    refine .inr ⟨s, hs, ?_⟩
    by_cases hz : s = 0
    · subst hz; exact .inr ⟨rfl, (h0 z).1 c⟩
    · have := (hp s.toNat (by omega) (by omega) z).1 c
      exact .inl ⟨by omega, b, this.1, this.2⟩
end Go.Proofs.YtmgfpcblbbpahaaGreat

namespace Go.Proofs.YtmgfpcblbbpahaaGreat
open Go.RowKit Ru Rn Rn.Ru

structure RFol (w : World) (B : Nat) (P : Nat → Prop) (v : Value) (vs : List Value) (F : List (List Int)) : Prop where
  len : vs.length = F.length
  tab : w.ownsRow B 23 1 v F.length vs
  own : ∀ i, i < F.length → w.ownsRow B 3 1 (vs.getD i undef) (F.getD i []).length (ints1 (F.getD i []))
  ok : ∀ i, i < F.length → ∀ j, (vs.getD i undef).ownBlock = some j → P j
theorem RFol.moved {w w' : World} {B : Nat} {P : Nat → Prop} {v : Value} {vs : List Value} {F : List (List Int)} (h : RFol w B P v vs F) (hb : Below w.heap.size w w') : RFol w' B P v vs F :=
  ⟨h.len, owns_below h.tab hb, fun i hi => owns_below (h.own i hi) hb, h.ok⟩
theorem RFol.at {w : World} {B : Nat} {P : Nat → Prop} {v : Value} {vs : List Value} {F : List (List Int)} (h : RFol w B P v vs F) {i : Nat} (hi : i < F.length) :
    ∃ g c cur, v = .slice (some ⟨g, 0, none⟩) F.length c ∧ B ≤ g ∧ w.heap[g]? = some (.cells cur 23 (0, 0)) ∧ w.cell? ⟨g, i, none⟩ = some (vs.getD i undef) := by
  have hl := h.len
  obtain ⟨h1, ⟨rfl, h0⟩ | ⟨g, cap, cur, rfl, hb, hg, hn, hc, hs, ht⟩⟩ := h.tab
  · omega
  · refine ⟨g, cap, cur, rfl, hb, hg, ?_⟩
    have hr := Row.owned h.tab
    obtain ⟨b, off, e, hlt, hcl⟩ := adrow_at hr (i := i) (u := vs.getD i undef) (by rw [List.getElem?_eq_getElem (show i < vs.length by omega)]; simp [List.getD, List.getElem?_eq_getElem (show i < vs.length by omega)]) hi
    simp only [Option.some.injEq, Addr.mk.injEq] at e
    obtain ⟨rfl, rfl, _⟩ := e
    simpa using hcl
theorem RFol.put {w : World} {B g c i : Nat} {P : Nat → Prop} {vs : List Value} {F : List (List Int)} (h : RFol w B P (.slice (some ⟨g, 0, none⟩) F.length c) vs F) (hi : i < F.length) {v' : Value} {r : List Int} (hown : w.ownsRow B 3 1 v' r.length (ints1 r)) (hP : ∀ j, v'.ownBlock = some j → P j) :
    RFol (w.setCell ⟨g, i, none⟩ v') B P (.slice (some ⟨g, 0, none⟩) F.length c) (vs.set i v') (F.set i r) := by
  have hl := h.len
  obtain ⟨g', c', cur, e, hb, hg, _⟩ := h.at hi
  simp only [Value.slice.injEq, Option.some.injEq, Addr.mk.injEq] at e
  obtain ⟨⟨rfl, _, _⟩, _, rfl⟩ := e
  have hgetV : ∀ j, (vs.set i v').getD j undef = if i = j then v' else vs.getD j undef := fun j => by
    rw [List.getD_eq_getElem?_getD, List.getElem?_set]
    by_cases e : i = j
    · subst e; simp [show i < vs.length by omega]
    · simp [e]
  refine ⟨by simp [hl], by rw [List.length_set]; exact afowns_turn v' h.tab, fun j hj => ?_, fun j hj k hk => ?_⟩
  rotate_left
  · rw [List.length_set] at hj
    rw [hgetV j] at hk
    by_cases e : i = j
    · rw [if_pos e] at hk; exact hP k hk
    · rw [if_neg e] at hk; exact h.ok j hj k hk
  rw [List.length_set] at hj
  have hgetF : (F.set i r).getD j [] = if i = j then r else F.getD j [] := by
    rw [List.getD_eq_getElem?_getD, List.getElem?_set]
    by_cases e : i = j
    · subst e; simp [hj]
    · simp [e]
  rw [hgetV j, hgetF]
  by_cases e : i = j
  · rw [if_pos e, if_pos e]
    exact ownsRow_setCell_other hown (own_apart hown hg (by decide)) _
  · rw [if_neg e, if_neg e]
    exact ownsRow_setCell_other (h.own j hj) (own_apart (h.own j hj) hg (by decide)) _
end Go.Proofs.YtmgfpcblbbpahaaGreat

namespace Go.Proofs.YtmgfpcblbbpahaaGreat
open Go.RowKit Ru Rn Rn.Ru

def linkD (b : List Int) (F : List (List Int)) (a : List Int) : List (List Int) := a.foldl (fun F s => F.set s.toNat (addF (F.getD s.toNat []) b)) F
theorem linkD_next (b : List Int) (F : List (List Int)) (a : List Int) (k : Nat) (h : k < a.length) : linkD b F (a.take (k + 1)) = (linkD b F (a.take k)).set (a.getD k 0).toNat (addF ((linkD b F (a.take k)).getD (a.getD k 0).toNat []) b) := by
  have e : a.getD k 0 = a[k] := by simp [List.getD, List.getElem?_eq_getElem h]
  rw [e]
  unfold linkD
  rw [List.take_add_one, List.getElem?_eq_getElem h, List.foldl_append]
  rfl
theorem linkD_len (b : List Int) : ∀ (a : List Int) (F : List (List Int)), (linkD b F a).length = F.length
  | [], F => rfl
  | x :: a, F => by
    have := linkD_len b a (F.set x.toNat (addF (F.getD x.toNat []) b))
    rw [List.length_set] at this
    exact this
theorem addF_ok (n : Nat) : ∀ (b a : List Int), DnOk n a → (∀ y ∈ b, 0 ≤ y ∧ y < (n : Int)) → DnOk n (addF a b)
  | [], a, h, _ => h
  | y :: b, a, h, hb => addF_ok n b (insD y a) (h.ins (hb y (by simp))) (fun z hz => hb z (by simp [hz]))
theorem linkD_ok (n : Nat) (b : List Int) (hb : ∀ y ∈ b, 0 ≤ y ∧ y < (n : Int)) : ∀ (a : List Int) (F : List (List Int)), (∀ r ∈ F, DnOk n r) → ∀ r ∈ linkD b F a, DnOk n r
  | [], F, h => h
  | x :: a, F, h => by
    refine linkD_ok n b hb a (F.set x.toNat (addF (F.getD x.toNat []) b)) fun r hr => ?_
    rcases List.mem_or_eq_of_mem_set hr with h1 | rfl
    · exact h r h1
    · refine addF_ok n b _ ?_ hb
      rw [List.getD_eq_getElem?_getD]
      cases e : F[x.toNat]? with
      | none => exact DnOk.nil n
      | some f => exact h f (List.mem_of_getElem? e)

set_option maxRecDepth 100000 in
set_option maxHeartbeats 8000000 in
theorem rlink_any (n B pb g c : Nat) (P : Nat → Prop) (w : World) (hPn : ∀ j, w.heap.size ≤ j → P j) (vs : List Value) (F : List (List Int)) (hF : RFol w B P (.slice (some ⟨g, 0, none⟩) F.length c) vs F) (hn : n ≤ 1000) (hFo : ∀ r ∈ F, DnOk n r) (hpl : pb < w.heap.size) (hpg : pb ≠ g) (hBw : B ≤ w.heap.size)
    (hp4 : w.cell? ⟨pb, 4, none⟩ = some (.slice (some ⟨g, 0, none⟩) F.length c)) (a b : List Int) (va vb : Value) (h1 : KP (fun j => j ≠ g) w (fun w' => Row w' va a.length (ints1 a))) (h2 : KP (fun j => j ≠ g) w (fun w' => Row w' vb b.length (ints1 b)))
    (ha : ∀ s ∈ a, 0 ≤ s ∧ s < (F.length : Int)) (hb : ∀ y ∈ b, 0 ≤ y ∧ y < (n : Int)) (hal : a.length ≤ 4000) (hbl : b.length ≤ 4000) :
    Calls Tryz.prog 73 #[.pointer (some ⟨pb, 0, none⟩), va, vb] w fun e w' => (∃ x, e = .returned x) ∧ (∃ vk, RFol w' B P (.slice (some ⟨g, 0, none⟩) F.length c) vk (linkD b F a)) ∧ Ag (fun j => j ≠ g) w w' := by
  obtain ⟨oa, ca, rfl⟩ := Row.form (h1 w (Ag.refl _ _))
  obtain ⟨ob, cb, rfl⟩ := Row.form (h2 w (Ag.refl _ _))
  have H1 := Lib.hid h1
  have H2 := Lib.hid h2
  have HA := Lib.hid ha
  have HB := Lib.hid hb
  have HP := Lib.hid hp4
  have HO := Lib.hid hFo
  have HST := Lib.hid hF
  clear h1 h2 ha hb hp4 hFo hF
  go_enter Tryz.func73, Tryz.ntmps73
  go_wp2_with fail
  go_loopg [6] a.length (fun gg s6 wx => ∃ k : Nat, k + gg = a.length ∧ s6 = .int .i64 (k : Int) ∧ (∃ vk, RFol wx B P (.slice (some ⟨g, 0, none⟩) F.length c) vk (linkD b F (a.take k))) ∧ Ag (fun j => j ≠ g) w wx)
  case atStart => exact ⟨0, by omega, rfl, ⟨vs, HST.out⟩, Ag.refl _ _⟩
  case round =>
    obtain ⟨k, hk, rfl, ⟨vk, hfk⟩, hag⟩ := hrel
    by_cases hlt : k < a.length
    · obtain ⟨g1, hg1⟩ : ∃ g1, g1 + 1 = gk := ⟨gk - 1, by omega⟩
      have hdk : (k : Int) < (a.length : Int) := by omega
      have hnx := linkD_next b F a k hlt
      obtain ⟨s, hs⟩ : ∃ s, s = a.getD k 0 := ⟨_, rfl⟩
      have hsr := HA.out s (by rw [hs]; simp [List.getD, List.getElem?_eq_getElem hlt])
      obtain ⟨m, rfl⟩ : ∃ m : Nat, s = (m : Int) := ⟨s.toNat, by omega⟩
      rw [← hs, Int.toNat_natCast] at hnx
      have hXo := linkD_ok n b HB.out (a.take k) F HO.out
      obtain ⟨X, hX⟩ : ∃ X, X = linkD b F (a.take k) := ⟨_, rfl⟩
      have hXl : X.length = F.length := by rw [hX, linkD_len]
      rw [← hX] at hnx hfk hXo
      rw [← hXl] at hfk hsr
      have hmX : m < X.length := by omega
      have hdm : (m : Int) < (F.length : Int) := by omega
      obtain ⟨la, lf, rfl, hll, hlc⟩ := adrow_at (H1.out wr hag) (i := k) (u := .int .i64 (m : Int)) (by rw [getElem?_ints hlt, hs]) hlt
      have hpk : wr.cell? ⟨pb, 4, none⟩ = some (.slice (some ⟨g, 0, none⟩) F.length c) := by
        have := hag.block pb hpl hpg
        rw [← HP.out]
        simp [World.cell?, this]
      obtain ⟨g', c', cur, e, hBg, hgb, hgc⟩ := hfk.at hmX
      simp only [Value.slice.injEq, Option.some.injEq, Addr.mk.injEq] at e
      obtain ⟨⟨rfl, _, _⟩, _, rfl⟩ := e
      have hgl : g < wr.heap.size := (Array.getElem?_eq_some_iff.1 hgb).1
      have hfz : wr.frozen? ⟨g, m, none⟩ = false := by simp [World.frozen?, hgb]
      have hown := hfk.own m hmX
      obtain ⟨R, hR⟩ : ∃ R, R = X.getD m [] := ⟨_, rfl⟩
      obtain ⟨u, hu⟩ : ∃ u, u = vk.getD m undef := ⟨_, rfl⟩
      have hRo : DnOk n R := by rw [hR]; exact hXo _ (by simp [List.getD, List.getElem?_eq_getElem hmX])
      rw [← hR] at hown hnx
      rw [← hu] at hown hgc
      obtain ⟨ou, cu, rfl⟩ := nf_slice hown
      have hRl := hRo.len
      have hb2 := H2.out wr hag
      have hcall := fun Y (hY : Below wr.heap.size wr Y) => radd_any R b _ _ Y (Row.owned (owns_below hown hY)) (hb2.below hY) (by omega) (by omega)
      have hpw : pb < wr.heap.size := Nat.lt_of_lt_of_le hpl hag.size
      have hBr : B ≤ wr.heap.size := Nat.le_trans hBw hag.size
      have HC := Lib.hid hcall
      have HN := Lib.hid hnx
      have HFK := Lib.hid hfk
      have HAG := Lib.hid hag
      have HXL := Lib.hid hXl
      clear hcall hnx hfk hag hR hu hX hs hown hb2 hXo hRo hXl
      go_upto_region 3 with (fail)
      go_region_law
        (first
         | (go_simp; go_at_call 46; refine (HC.out _ (by repeat (first | exact Below.refl _ _ | refine Below.drew ?_))).mono ?_; rintro x w3 ⟨u3, rfl, hu3, hb3⟩
            have hB3 : Below wr.heap.size wr w3 := bel_then (by repeat (first | exact Below.refl _ _ | refine Below.drew ?_)) hb3
            obtain ⟨o3, c3, rfl⟩ := nf_slice hu3
            have q0 : w3.cell? ⟨pb, 4, none⟩ = some (.slice (some ⟨g, 0, none⟩) F.length c) := (hB3.cell (p := ⟨pb, 4, none⟩) hpw).trans hpk
            have q3 : w3.cell? ⟨la, lf + k, none⟩ = some (.int .i64 (m : Int)) := (hB3.cell (p := ⟨la, lf + k, none⟩) hll).trans hlc
            have q1 : w3.cell? ⟨g, m, none⟩ = some (.slice ou R.length cu) := (hB3.cell (p := ⟨g, m, none⟩) hgl).trans hgc
            have q2 : w3.frozen? ⟨g, m, none⟩ = false := by rw [← hfz]; simp only [World.frozen?]; rw [hB3.block g hgl]))
      all_goals (
        have hput := (HFK.out.moved hB3).put hmX (owns_base hu3 (by simpa using hBr)) (fun j hj => hPn j (Nat.le_trans HAG.out.size (hu3.lt j hj).1))
        rw [← HN.out, HXL.out] at hput
        have hagn : Ag (fun j => j ≠ g) w (w3.setCell ⟨g, m, none⟩ (.slice o3 (addF R b).length c3)) := (HAG.out.trans (.of hB3)).setCell (by simp) _
        clear hu3 hb3 q0 q1 q2 q3
        go_wp2_with fail
        go_roundg g1
        case measure => omega
        case rel => exact ⟨k + 1, by omega, by simp, ⟨_, hput⟩, hagn⟩)
    · obtain rfl : k = a.length := by omega
      rw [List.take_length] at hfk
      have HK := Lib.hid (And.intro hfk hag)
      clear hfk hag
      go_wp2_with fail
      go_end0
      exact ⟨⟨_, rfl⟩, ⟨_, HK.out.1⟩, HK.out.2⟩
end Go.Proofs.YtmgfpcblbbpahaaGreat
