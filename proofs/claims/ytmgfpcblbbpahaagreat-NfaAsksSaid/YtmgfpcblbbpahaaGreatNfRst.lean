/- goboref6.node: linked; a star. -/
import Derived.Test.YtmgfpcblbbpahaaGreatNfRn
set_option linter.unusedVariables false
set_option linter.unusedSimpArgs false
namespace Go.Proofs.YtmgfpcblbbpahaaGreat
open Go.RowKit Ru Rn Rn.Ru

def L6 (b1 b2 b3 b4 : Bool) (c : Nat) : Array Bool :=
  #[true, true, true, true, true, true, true, true, true, true, b1, decide (1 ≤ c), true, true, true, true, true, b2, decide (2 ≤ c), true, true, true, true, b3, decide (3 ≤ c), true, true, true, true, b4, decide (4 ≤ c), false, false, false, false, false, false, false, false, false, false, false, false]
def R6 (b1 b2 b3 b4 : Bool) (c : Nat) : List Nat :=
  (if b1 then (if c = 0 then [11] else []) else [10]) ++ ((if b2 then (if c = 1 then [18] else []) else [17]) ++ ((if b3 then (if c = 2 then [24] else []) else [23]) ++ (if b4 then (if c = 3 then [30] else []) else [29])))
def V6 (b1 b2 b3 b4 : Bool) (c : Nat) : Prop := c ≤ 4 ∧ (1 ≤ c → b1 = true) ∧ (2 ≤ c → b2 = true) ∧ (3 ≤ c → b3 = true) ∧ (4 ≤ c → b4 = true)
theorem R6_mem {b1 b2 b3 b4 : Bool} {c i : Nat} (hv : V6 b1 b2 b3 b4 c) (h : i ∈ R6 b1 b2 b3 b4 c) :
    (b1 = false ∧ c = 0 ∧ i = 10) ∨ (b1 = true ∧ c = 0 ∧ i = 11) ∨ (b2 = false ∧ c ≤ 1 ∧ i = 17) ∨ (b2 = true ∧ c = 1 ∧ i = 18) ∨ (b3 = false ∧ c ≤ 2 ∧ i = 23) ∨ (b3 = true ∧ c = 2 ∧ i = 24) ∨ (b4 = false ∧ c ≤ 3 ∧ i = 29) ∨ (b4 = true ∧ c = 3 ∧ i = 30) := by
  obtain ⟨hc, v1, v2, v3, v4⟩ := hv
  obtain rfl | rfl | rfl | rfl | rfl : c = 0 ∨ c = 1 ∨ c = 2 ∨ c = 3 ∨ c = 4 := by omega
  all_goals (cases b1 <;> cases b2 <;> cases b3 <;> cases b4 <;> simp [R6] at v1 v2 v3 v4 h ⊢ <;> omega)
theorem R6_ne {b1 b2 b3 b4 : Bool} {c : Nat} (hv : V6 b1 b2 b3 b4 c) (h4 : c < 4) : R6 b1 b2 b3 b4 c ≠ [] := by
  obtain ⟨hc, v1, v2, v3, v4⟩ := hv
  obtain rfl | rfl | rfl | rfl : c = 0 ∨ c = 1 ∨ c = 2 ∨ c = 3 := by omega
  all_goals (cases b1 <;> cases b2 <;> cases b3 <;> cases b4 <;> simp [R6] at v1 v2 v3 v4 ⊢)
theorem law6 {P : Program} {ops : Array Oper} {Q : Exit → Act → World → Prop} {C : World → Prop} {md : Region.Mode} {t m : Nat} (J : Bool → Bool → Bool → Bool → Nat → Act → World → Prop)
    (hr : ∀ b1 b2 b3 b4 c, V6 b1 b2 b3 b4 c → c < 4 → Region.ready md ops (L6 b1 b2 b3 b4 c) = R6 b1 b2 b3 b4 c)
    (h1 : ∀ b2 b3 b4 a w, J false b2 b3 b4 0 a w → wpOp P ops Q 10 (fun a' w' => C w' ∧ J true b2 b3 b4 0 a' w') a w)
    (h2 : ∀ b1 b3 b4 c a w, c ≤ 1 → J b1 false b3 b4 c a w → wpOp P ops Q 17 (fun a' w' => C w' ∧ J b1 true b3 b4 c a' w') a w)
    (h3 : ∀ b1 b2 b4 c a w, c ≤ 2 → J b1 b2 false b4 c a w → wpOp P ops Q 23 (fun a' w' => C w' ∧ J b1 b2 true b4 c a' w') a w)
    (h4 : ∀ b1 b2 b3 c a w, c ≤ 3 → J b1 b2 b3 false c a w → wpOp P ops Q 29 (fun a' w' => C w' ∧ J b1 b2 b3 true c a' w') a w)
    (k1 : ∀ b2 b3 b4 a w, J true b2 b3 b4 0 a w → wpOp P ops Q 11 (fun a' w' => C w' ∧ J true b2 b3 b4 1 a' w') a w)
    (k2 : ∀ b3 b4 a w, J true true b3 b4 1 a w → wpOp P ops Q 18 (fun a' w' => C w' ∧ J true true b3 b4 2 a' w') a w)
    (k3 : ∀ b4 a w, J true true true b4 2 a w → wpOp P ops Q 24 (fun a' w' => C w' ∧ J true true true b4 3 a' w') a w)
    (k4 : ∀ a w, J true true true true 3 a w → wpOp P ops Q 30 (fun a' w' => C w' ∧ J true true true true 4 a' w') a w)
    (hend : ∀ a w, J true true true true 4 a w → wpAnyT P md ops Q t C m (L6 true true true true 4) a w) :
    ∀ n b1 b2 b3 b4 c a w, V6 b1 b2 b3 b4 c → n + c + b1.toNat + b2.toNat + b3.toNat + b4.toNat = 8 → J b1 b2 b3 b4 c a w → wpAnyT P md ops Q t C (n + m) (L6 b1 b2 b3 b4 c) a w := by
  intro n
  induction n with
  | zero =>
    intro b1 b2 b3 b4 c a w hv hn hj
    have h5 : b1 = true ∧ b2 = true ∧ b3 = true ∧ b4 = true ∧ c = 4 := by
      have := hv.1
      cases b1 <;> cases b2 <;> cases b3 <;> cases b4 <;> simp at hn ⊢ <;> omega
    obtain ⟨rfl, rfl, rfl, rfl, rfl⟩ := h5
    rw [Nat.zero_add]
    exact hend a w hj
  | succ n ih =>
    intro b1 b2 b3 b4 c a w hv hn hj
    have hc4 : c < 4 := by
      obtain ⟨hc, v1, v2, v3, v4⟩ := hv
      rcases Nat.lt_or_ge c 4 with h | h
      · exact h
      · rw [v1 (by omega), v2 (by omega), v3 (by omega), v4 (by omega)] at hn
        simp at hn; omega
    have e : n + 1 + m = (n + m) + 1 := by omega
    rw [e]
    have step : ∀ i b1' b2' b3' b4' c', (L6 b1 b2 b3 b4 c).setIfInBounds i true = L6 b1' b2' b3' b4' c' → V6 b1' b2' b3' b4' c' → n + c' + b1'.toNat + b2'.toNat + b3'.toNat + b4'.toNat = 8 →
        wpOp P ops Q i (fun a' w' => C w' ∧ J b1' b2' b3' b4' c' a' w') a w →
        wpOp P ops Q i (fun a' w' => (((L6 b1 b2 b3 b4 c).setIfInBounds i true).getD t false = false → C w') ∧ wpAnyT P md ops Q t C (n + m) ((L6 b1 b2 b3 b4 c).setIfInBounds i true) a' w') a w :=
      fun i b1' b2' b3' b4' c' hL hV hN h => wpOp_mono (fun a' w' h' => ⟨fun _ => h'.1, by rw [hL]; exact ih b1' b2' b3' b4' c' a' w' hV hN h'.2⟩) h
    refine wpAnyT_all (hr b1 b2 b3 b4 c hv hc4) (R6_ne hv hc4) (fun i hi => ?_)
    obtain ⟨hc, v1, v2, v3, v4⟩ := hv
    rcases R6_mem ⟨hc, v1, v2, v3, v4⟩ hi with ⟨rfl, rfl, rfl⟩ | ⟨rfl, rfl, rfl⟩ | ⟨rfl, hcl, rfl⟩ | ⟨rfl, rfl, rfl⟩ | ⟨rfl, hcl, rfl⟩ | ⟨rfl, rfl, rfl⟩ | ⟨rfl, hcl, rfl⟩ | ⟨rfl, rfl, rfl⟩
    · exact step 10 true b2 b3 b4 0 rfl ⟨hc, fun _ => rfl, v2, v3, v4⟩ (by simp at hn ⊢; omega) (h1 b2 b3 b4 a w hj)
    · exact step 11 true b2 b3 b4 1 rfl ⟨by omega, fun _ => rfl, fun h => by omega, fun h => by omega, fun h => by omega⟩ (by omega) (k1 b2 b3 b4 a w hj)
    · exact step 17 b1 true b3 b4 c rfl ⟨hc, v1, fun _ => rfl, v3, v4⟩ (by simp at hn ⊢; omega) (h2 b1 b3 b4 c a w hcl hj)
    · obtain rfl := v1 (by omega)
      exact step 18 true true b3 b4 2 rfl ⟨by omega, fun _ => rfl, fun _ => rfl, fun h => by omega, fun h => by omega⟩ (by omega) (k2 b3 b4 a w hj)
    · exact step 23 b1 b2 true b4 c rfl ⟨hc, v1, v2, fun _ => rfl, v4⟩ (by simp at hn ⊢; omega) (h3 b1 b2 b4 c a w hcl hj)
    · obtain rfl := v1 (by omega)
      obtain rfl := v2 (by omega)
      exact step 24 true true true b4 3 rfl ⟨by omega, fun _ => rfl, fun _ => rfl, fun _ => rfl, fun h => by omega⟩ (by omega) (k3 b4 a w hj)
    · exact step 29 b1 b2 b3 true c rfl ⟨hc, v1, v2, v3, fun _ => rfl⟩ (by simp at hn ⊢; omega) (h4 b1 b2 b3 c a w hcl hj)
    · obtain rfl := v1 (by omega)
      obtain rfl := v2 (by omega)
      obtain rfl := v3 (by omega)
      exact step 30 true true true true 4 rfl ⟨by omega, fun _ => rfl, fun _ => rfl, fun _ => rfl, fun _ => rfl⟩ (by omega) (k4 a w hj)

structure Chn (W w : World) (B : Nat) (ty : TypeId) (v : Value) (n : Nat) (xs : List Value) (x : Value) (b d : Bool) (sb sa : Value) : Prop where
  c0 : d = false → w.ownsRow B ty 1 v n xs
  c1 : b = true → d = false → ∃ q, sb = .slice (some ⟨q, 0, none⟩) 1 1 ∧ w.heap[q]? = some (.cells #[x] ty (0, 0))
  c2 : d = true → w.ownsRow B ty 1 sa (n + 1) (xs ++ [x]) ∧ ∀ k, sa.ownBlock = some k → v.ownBlock = some k ∨ W.heap.size ≤ k
section
variable {W w w' : World} {B n : Nat} {ty : TypeId} {v x sb sa v' : Value} {xs : List Value} {b d : Bool}
theorem Chn.keep (h : Chn W w B ty v n xs x b d sb sa) (k : Kty ty w w') : Chn W w' B ty v n xs x b d sb sa :=
  ⟨fun hd => owns_kty (h.c0 hd) k, fun hb hd => by obtain ⟨q, e, hq⟩ := h.c1 hb hd; exact ⟨q, e, k _ _ _ hq⟩, fun hd => ⟨owns_kty (h.c2 hd).1 k, (h.c2 hd).2⟩⟩
theorem Chn.new (h : Chn W w B ty v n xs x false d sb sa) : Chn W (w.alloc (.cells #[x] ty)) B ty v n xs x true d (.slice (some ⟨w.heap.size, 0, none⟩) 1 1) sa :=
  have hk : Kty ty w (w.alloc (.cells #[x] ty)) := Kty.of (bel_new (Below.refl _ _) _)
  ⟨fun hd => owns_kty (h.c0 hd) hk, fun _ _ => ⟨_, rfl, heap_alloc_new w _⟩, fun hd => ⟨owns_kty (h.c2 hd).1 hk, (h.c2 hd).2⟩⟩
theorem Chn.app (hown : w'.ownsRow B ty 1 v' (n + 1) (xs ++ [x])) (hp : ∀ k, v'.ownBlock = some k → v.ownBlock = some k ∨ w.heap.size ≤ k) (hs : W.heap.size ≤ w.heap.size) : Chn W w' B ty v n xs x b true sb v' :=
  ⟨fun h => absurd h (by decide), fun _ h => absurd h (by decide), fun _ => ⟨hown, fun k hk => (hp k hk).imp id fun h => by omega⟩⟩
theorem Chn.row (h : Chn W w B ty v n xs x true false sb sa) : ∃ q, sb = .slice (some ⟨q, 0, none⟩) 1 1 ∧ Row w sb 1 [x] := by
  obtain ⟨q, e, hq⟩ := h.c1 rfl rfl
  refine ⟨q, e, ?_⟩
  rw [e]
  refine ⟨_, _, rfl, Nat.le_refl _, by decide, .inr ⟨q, 0, rfl, (Array.getElem?_eq_some_iff.1 hq).1, fun j u hu => ?_⟩⟩
  cases j with
  | zero => simp at hu; subst hu; simp [World.cell?, hq]
  | succ j => simp at hu
end
structure G6 (w0 W : World) (pb : Nat) (T : Nat → Prop) (vS vO v2 vL vF v5 : Value) (ss fs : List Value) (S : List (List Pc)) (O : List Int) (L : List Bool) (F : List (List Int)) (sv : Value) (q : Int)
    (b1 b2 b3 b4 : Bool) (c : Nat) (s1 a1 s2 a2 s3 a3 s4 a4 : Value) (w : World) : Prop where
  rn : RN w0 W pb T vS vO v2 vL vF v5 ss fs S O L F
  ag : Ag (fun j => ¬ T j) W w
  blk : w.heap[pb]? = some (.cells #[vS, vO, v2, vL, vF, v5] 49 (0, 0))
  ch1 : Chn W w w0.heap.size 39 vS S.length ss sv b1 (decide (1 ≤ c)) s1 a1
  ch2 : Chn W w w0.heap.size 3 vO O.length (ints1 O) (.int .i64 q) b2 (decide (2 ≤ c)) s2 a2
  ch3 : Chn W w w0.heap.size 4 vL L.length (L.map Value.bool) (.bool false) b3 (decide (3 ≤ c)) s3 a3
  ch4 : Chn W w w0.heap.size 23 vF F.length fs (.slice none 0 0) b4 (decide (4 ≤ c)) s4 a4
section
variable {w0 W w w' : World} {pb c : Nat} {T : Nat → Prop} {vS vO v2 vL vF v5 sv : Value} {ss fs : List Value} {S : List (List Pc)} {O : List Int} {L : List Bool} {F : List (List Int)} {q : Int} {b1 b2 b3 b4 : Bool} {s1 a1 s2 a2 s3 a3 s4 a4 v' : Value}
theorem G6.start (h : RN w0 W pb T vS vO v2 vL vF v5 ss fs S O L F) (hb : Below W.heap.size W w) : G6 w0 W pb T vS vO v2 vL vF v5 ss fs S O L F sv q false false false false 0 s1 a1 s2 a2 s3 a3 s4 a4 w := by
  have h2 := h.moved hb
  exact ⟨h, .of hb, h2.blk, ⟨fun _ => h2.sets, fun h => absurd h (by decide), fun h => absurd h (by decide)⟩, ⟨fun _ => h2.ofs, fun h => absurd h (by decide), fun h => absurd h (by decide)⟩, ⟨fun _ => h2.last, fun h => absurd h (by decide), fun h => absurd h (by decide)⟩, ⟨fun _ => h2.fol.tab, fun h => absurd h (by decide), fun h => absurd h (by decide)⟩⟩
theorem G6.new1 (h : G6 w0 W pb T vS vO v2 vL vF v5 ss fs S O L F sv q false b2 b3 b4 c s1 a1 s2 a2 s3 a3 s4 a4 w) : G6 w0 W pb T vS vO v2 vL vF v5 ss fs S O L F sv q true b2 b3 b4 c (.slice (some ⟨w.heap.size, 0, none⟩) 1 1) a1 s2 a2 s3 a3 s4 a4 (w.alloc (.cells #[sv] 39)) :=
  have hb := bel_new (Below.refl w.heap.size w) (.cells #[sv] 39)
  ⟨h.rn, h.ag.trans (.of hb), bel_get hb h.blk, h.ch1.new, h.ch2.keep (Kty.of hb), h.ch3.keep (Kty.of hb), h.ch4.keep (Kty.of hb)⟩
theorem G6.new2 (h : G6 w0 W pb T vS vO v2 vL vF v5 ss fs S O L F sv q b1 false b3 b4 c s1 a1 s2 a2 s3 a3 s4 a4 w) : G6 w0 W pb T vS vO v2 vL vF v5 ss fs S O L F sv q b1 true b3 b4 c s1 a1 (.slice (some ⟨w.heap.size, 0, none⟩) 1 1) a2 s3 a3 s4 a4 (w.alloc (.cells #[.int .i64 q] 3)) :=
  have hb := bel_new (Below.refl w.heap.size w) (.cells #[.int .i64 q] 3)
  ⟨h.rn, h.ag.trans (.of hb), bel_get hb h.blk, h.ch1.keep (Kty.of hb), h.ch2.new, h.ch3.keep (Kty.of hb), h.ch4.keep (Kty.of hb)⟩
theorem G6.new3 (h : G6 w0 W pb T vS vO v2 vL vF v5 ss fs S O L F sv q b1 b2 false b4 c s1 a1 s2 a2 s3 a3 s4 a4 w) : G6 w0 W pb T vS vO v2 vL vF v5 ss fs S O L F sv q b1 b2 true b4 c s1 a1 s2 a2 (.slice (some ⟨w.heap.size, 0, none⟩) 1 1) a3 s4 a4 (w.alloc (.cells #[.bool false] 4)) :=
  have hb := bel_new (Below.refl w.heap.size w) (.cells #[.bool false] 4)
  ⟨h.rn, h.ag.trans (.of hb), bel_get hb h.blk, h.ch1.keep (Kty.of hb), h.ch2.keep (Kty.of hb), h.ch3.new, h.ch4.keep (Kty.of hb)⟩
theorem G6.new4 (h : G6 w0 W pb T vS vO v2 vL vF v5 ss fs S O L F sv q b1 b2 b3 false c s1 a1 s2 a2 s3 a3 s4 a4 w) : G6 w0 W pb T vS vO v2 vL vF v5 ss fs S O L F sv q b1 b2 b3 true c s1 a1 s2 a2 s3 a3 (.slice (some ⟨w.heap.size, 0, none⟩) 1 1) a4 (w.alloc (.cells #[.slice none 0 0] 23)) :=
  have hb := bel_new (Below.refl w.heap.size w) (.cells #[.slice none 0 0] 23)
  ⟨h.rn, h.ag.trans (.of hb), bel_get hb h.blk, h.ch1.keep (Kty.of hb), h.ch2.keep (Kty.of hb), h.ch3.keep (Kty.of hb), h.ch4.new⟩
theorem G6.app1 (h : G6 w0 W pb T vS vO v2 vL vF v5 ss fs S O L F sv q true b2 b3 b4 0 s1 a1 s2 a2 s3 a3 s4 a4 w) (hown : w'.ownsRow w0.heap.size 39 1 v' (S.length + 1) (ss ++ [sv])) (hg : w.grownBy w' vS.ownBlock) (hp : ∀ k, v'.ownBlock = some k → vS.ownBlock = some k ∨ w.heap.size ≤ k) :
    G6 w0 W pb T vS vO v2 vL vF v5 ss fs S O L F sv q true b2 b3 b4 1 s1 v' s2 a2 s3 a3 s4 a4 w' :=
  have ho := h.ch1.c0 rfl
  ⟨h.rn, h.ag.grown hg (fun k hk hT => hT (h.rn.tS k hk)), Kty.grown ho hg (by decide) _ _ _ h.blk, Chn.app hown hp h.ag.size, h.ch2.keep (Kty.grown ho hg (by decide)), h.ch3.keep (Kty.grown ho hg (by decide)), h.ch4.keep (Kty.grown ho hg (by decide))⟩
theorem G6.app2 (h : G6 w0 W pb T vS vO v2 vL vF v5 ss fs S O L F sv q true true b3 b4 1 s1 a1 s2 a2 s3 a3 s4 a4 w) (hown : w'.ownsRow w0.heap.size 3 1 v' (O.length + 1) (ints1 O ++ [.int .i64 q])) (hg : w.grownBy w' vO.ownBlock) (hp : ∀ k, v'.ownBlock = some k → vO.ownBlock = some k ∨ w.heap.size ≤ k) :
    G6 w0 W pb T vS vO v2 vL vF v5 ss fs S O L F sv q true true b3 b4 2 s1 a1 s2 v' s3 a3 s4 a4 w' :=
  have ho := h.ch2.c0 rfl
  ⟨h.rn, h.ag.grown hg (fun k hk hT => hT (h.rn.tO k hk)), Kty.grown ho hg (by decide) _ _ _ h.blk, h.ch1.keep (Kty.grown ho hg (by decide)), Chn.app hown hp h.ag.size, h.ch3.keep (Kty.grown ho hg (by decide)), h.ch4.keep (Kty.grown ho hg (by decide))⟩
theorem G6.app3 (h : G6 w0 W pb T vS vO v2 vL vF v5 ss fs S O L F sv q true true true b4 2 s1 a1 s2 a2 s3 a3 s4 a4 w) (hown : w'.ownsRow w0.heap.size 4 1 v' (L.length + 1) (L.map Value.bool ++ [.bool false])) (hg : w.grownBy w' vL.ownBlock) (hp : ∀ k, v'.ownBlock = some k → vL.ownBlock = some k ∨ w.heap.size ≤ k) :
    G6 w0 W pb T vS vO v2 vL vF v5 ss fs S O L F sv q true true true b4 3 s1 a1 s2 a2 s3 v' s4 a4 w' :=
  have ho := h.ch3.c0 rfl
  ⟨h.rn, h.ag.grown hg (fun k hk hT => hT (h.rn.tL k hk)), Kty.grown ho hg (by decide) _ _ _ h.blk, h.ch1.keep (Kty.grown ho hg (by decide)), h.ch2.keep (Kty.grown ho hg (by decide)), Chn.app hown hp h.ag.size, h.ch4.keep (Kty.grown ho hg (by decide))⟩
theorem G6.app4 (h : G6 w0 W pb T vS vO v2 vL vF v5 ss fs S O L F sv q true true true true 3 s1 a1 s2 a2 s3 a3 s4 a4 w) (hown : w'.ownsRow w0.heap.size 23 1 v' (F.length + 1) (fs ++ [.slice none 0 0])) (hg : w.grownBy w' vF.ownBlock) (hp : ∀ k, v'.ownBlock = some k → vF.ownBlock = some k ∨ w.heap.size ≤ k) :
    G6 w0 W pb T vS vO v2 vL vF v5 ss fs S O L F sv q true true true true 4 s1 a1 s2 a2 s3 a3 s4 v' w' :=
  have ho := h.ch4.c0 rfl
  ⟨h.rn, h.ag.grown hg (fun k hk hT => hT (h.rn.tF k hk)), Kty.grown ho hg (by decide) _ _ _ h.blk, h.ch1.keep (Kty.grown ho hg (by decide)), h.ch2.keep (Kty.grown ho hg (by decide)), h.ch3.keep (Kty.grown ho hg (by decide)), Chn.app hown hp h.ag.size⟩
theorem G6.done (h : G6 w0 W pb T vS vO v2 vL vF v5 ss fs S O L F sv q true true true true 4 s1 a1 s2 a2 s3 a3 s4 a4 w) {s : List Pc} (hsv : Row w0 sv s.length (flatK .i32 s))
    (hw' : w' = (((w.setCell ⟨pb, 0, none⟩ a1).setCell ⟨pb, 1, none⟩ a2).setCell ⟨pb, 3, none⟩ a3).setCell ⟨pb, 4, none⟩ a4) :
    ∃ T', RN w0 w' pb T' a1 a2 v2 a3 a4 v5 (ss ++ [sv]) (fs ++ [.slice none 0 0]) (S ++ [s]) (O ++ [q]) (L ++ [false]) (F ++ [[]]) ∧ RTr T W T' w' ∧ ∀ j, T' j → j < W.heap.size → T j := by
  obtain ⟨o1, p1⟩ := h.ch1.c2 rfl
  obtain ⟨o2, p2⟩ := h.ch2.c2 rfl
  obtain ⟨o3, p3⟩ := h.ch3.c2 rfl
  obtain ⟨o4, p4⟩ := h.ch4.c2 rfl
  have hs := h.ag.size
  have hlow := h.rn.low
  obtain ⟨w1, hw1⟩ : ∃ w1, w1 = w.setCell ⟨pb, 0, none⟩ a1 := ⟨_, rfl⟩
  obtain ⟨w2, hw2⟩ : ∃ w2, w2 = w1.setCell ⟨pb, 1, none⟩ a2 := ⟨_, rfl⟩
  obtain ⟨w3, hw3⟩ : ∃ w3, w3 = w2.setCell ⟨pb, 3, none⟩ a3 := ⟨_, rfl⟩
  rw [← hw1, ← hw2, ← hw3] at hw'
  have n1 : w1.heap[pb]? = some (.cells #[a1, vO, v2, vL, vF, v5] 49 (0, 0)) := by rw [hw1]; simp [World.setCell, Array.getElem?_modify, h.blk]
  have n2 : w2.heap[pb]? = some (.cells #[a1, a2, v2, vL, vF, v5] 49 (0, 0)) := by rw [hw2]; simp [World.setCell, Array.getElem?_modify, n1]
  have n3 : w3.heap[pb]? = some (.cells #[a1, a2, v2, a3, vF, v5] 49 (0, 0)) := by rw [hw3]; simp [World.setCell, Array.getElem?_modify, n2]
  have n4 : w'.heap[pb]? = some (.cells #[a1, a2, v2, a3, a4, v5] 49 (0, 0)) := by rw [hw']; simp [World.setCell, Array.getElem?_modify, n3]
  have hk : ∀ ty, ty ≠ 49 → Kty ty w w' := fun ty hne =>
    (((show Kty ty w w1 by rw [hw1]; exact Kty.set h.blk (Ne.symm hne) _).trans (show Kty ty w1 w2 by rw [hw2]; exact Kty.set n1 (Ne.symm hne) _)).trans (show Kty ty w2 w3 by rw [hw3]; exact Kty.set n2 (Ne.symm hne) _)).trans (show Kty ty w3 w' by rw [hw']; exact Kty.set n3 (Ne.symm hne) _)
  have hsz : w'.heap.size = w.heap.size := by rw [hw', hw3, hw2, hw1]; simp [World.setCell]
  have hag : Ag (fun j => ¬ T j) W w' := by
    rw [hw', hw3, hw2, hw1]
    exact (((h.ag.setCell (p := ⟨pb, 0, none⟩) (fun k => k h.rn.tp) _).setCell (p := ⟨pb, 1, none⟩) (fun k => k h.rn.tp) _).setCell (p := ⟨pb, 3, none⟩) (fun k => k h.rn.tp) _).setCell (p := ⟨pb, 4, none⟩) (fun k => k h.rn.tp) _
  obtain ⟨T', hT'⟩ : ∃ T' : Nat → Prop, ∀ j, T' j ↔ (T j ∨ a1.ownBlock = some j ∨ a2.ownBlock = some j ∨ a3.ownBlock = some j ∨ a4.ownBlock = some j) := ⟨_, fun j => Iff.rfl⟩
  have hnew : ∀ j, T' j → T j ∨ W.heap.size ≤ j := fun j hj => by
    rcases (hT' j).1 hj with h1 | h1 | h1 | h1 | h1
    · exact .inl h1
    · exact (p1 j h1).imp (h.rn.tS j) id
    · exact (p2 j h1).imp (h.rn.tO j) id
    · exact (p3 j h1).imp (h.rn.tL j) id
    · exact (p4 j h1).imp (h.rn.tF j) id
  have hfl := h.rn.fol
  have hl1 : ∀ {α : Type} (a : List α) (x : α), (a ++ [x]).length = a.length + 1 := fun a x => by simp
  refine ⟨T', ⟨n4, ?_, by rw [hl1, hl1, h.rn.sl], fun i hi => ?_, ?_, ?_, ⟨by rw [hl1, hl1, hfl.len], ?_, fun i hi => ?_, fun i hi j hj => ?_⟩, by rw [hl1, hl1, h.rn.lenO], by rw [hl1, hl1, h.rn.lenL], by rw [hl1, hl1, h.rn.lenF], (hT' pb).2 (.inl h.rn.tp), fun j hj => (hT' j).2 (.inr (.inl hj)), fun j hj => (hT' j).2 (.inr (.inr (.inl hj))), fun j hj => (hT' j).2 (.inr (.inr (.inr (.inl hj)))), fun j hj => (hT' j).2 (.inr (.inr (.inr (.inr hj)))), fun j hj => ?_,
    h.rn.bel.trans (hag.below h.rn.bel.size fun k hk hT => by have := (h.rn.tlt k hT).1; omega)⟩, ⟨hag, hnew⟩, fun j hj hlt => (hnew j hj).elim id fun h => by omega⟩
  · rw [hl1]; exact owns_kty o1 (hk _ (by decide))
  · rw [hl1] at hi
    rw [List.getD_eq_getElem?_getD, List.getD_eq_getElem?_getD]
    by_cases hlt : i < S.length
    · rw [List.getElem?_append_left (by rw [h.rn.sl]; exact hlt), List.getElem?_append_left hlt, ← List.getD_eq_getElem?_getD, ← List.getD_eq_getElem?_getD]
      exact h.rn.sr i hlt
    · obtain rfl : i = S.length := by omega
      rw [List.getElem?_append_right (by rw [h.rn.sl]; omega), List.getElem?_append_right (by omega), h.rn.sl]
      simpa using hsv
  · rw [hl1, show ints1 (O ++ [q]) = ints1 O ++ [.int .i64 q] by simp [ints1]]; exact owns_kty o2 (hk _ (by decide))
  · rw [hl1, List.map_append]; exact owns_kty o3 (hk _ (by decide))
  · rw [hl1]; exact owns_kty o4 (hk _ (by decide))
  · rw [hl1] at hi
    rw [List.getD_eq_getElem?_getD, List.getD_eq_getElem?_getD]
    by_cases hlt : i < F.length
    · rw [List.getElem?_append_left (by rw [hfl.len]; exact hlt), List.getElem?_append_left hlt, ← List.getD_eq_getElem?_getD, ← List.getD_eq_getElem?_getD]
      exact owns_ag (hfl.own i hlt) hag (hfl.ok i hlt)
    · obtain rfl : i = F.length := by omega
      rw [List.getElem?_append_right (by rw [hfl.len]; omega), List.getElem?_append_right (by omega), hfl.len]
      simpa using World.ownsRow_nil w' w0.heap.size 3 1
  · rw [hl1] at hi
    rw [List.getD_eq_getElem?_getD] at hj
    intro hT
    by_cases hlt : i < F.length
    · rw [List.getElem?_append_left (by rw [hfl.len]; exact hlt), ← List.getD_eq_getElem?_getD] at hj
      have := ((hfl.own i hlt).lt j hj).2
      rcases hnew j hT with h1 | h1
      · exact hfl.ok i hlt j hj h1
      · omega
    · obtain rfl : i = F.length := by omega
      rw [List.getElem?_append_right (by rw [hfl.len]; omega), hfl.len] at hj
      simp [Value.ownBlock] at hj
  · refine ⟨?_, ?_⟩
    · rcases hnew j hj with h1 | h1
      · exact (h.rn.tlt j h1).1
      · have := h.rn.bel.size; omega
    · rw [hsz]
      rcases (hT' j).1 hj with h1 | h1 | h1 | h1 | h1
      · have := (h.rn.tlt j h1).2; omega
      · exact (o1.lt j h1).2
      · exact (o2.lt j h1).2
      · exact (o3.lt j h1).2
      · exact (o4.lt j h1).2
end
end Go.Proofs.YtmgfpcblbbpahaaGreat

namespace Go.Proofs.YtmgfpcblbbpahaaGreat
open Go.RowKit Ru Rn Rn.Ru

structure NPost (w0 : World) (pb : Nat) (v2 v5 : Value) (e : RE) (S : List (List Pc)) (O : List Int) (L : List Bool) (F : List (List Int)) (q : Int) (T : Nat → Prop) (w : World) (fv lv : Value) (w' : World) : Prop where
  st : ∃ (T' : Nat → Prop) (vS vO vL vF : Value) (ss fs : List Value), RN w0 w' pb T' vS vO v2 vL vF v5 ss fs (S ++ Nf.sts e) (O ++ List.replicate (Nf.sts e).length q) (L ++ List.replicate (Nf.sts e).length false) (Nf.nd e F).2 ∧ RTr T w T' w' ∧
    PRd w' w0.heap.size T' fv (Nf.nd e F).1.2.1 ∧ PRd w' w0.heap.size T' lv (Nf.nd e F).1.2.2
def NIh (w0 : World) (pb : Nat) (v2 v5 : Value) (N : Nat) : Prop :=
  ∀ (e : RE) (sv lv : Value), e.size ≤ N → e.prt = true → ReIs w0 e sv lv → ∀ (w : World) (T : Nat → Prop) (vS vO vL vF : Value) (ss fs : List Value) (S : List (List Pc)) (O : List Int) (L : List Bool) (F : List (List Int)) (q : Int),
    RN w0 w pb T vS vO v2 vL vF v5 ss fs S O L F → (∀ r ∈ F, DnOk F.length r) → 0 < F.length → S.length + e.size ≤ 1000 →
    Calls Tryz.prog 45 #[.pointer (some ⟨pb, 0, none⟩), reV e sv lv, .int .i64 q] w fun x w' => ∃ fv lv', x = .returned (.agg #[.bool (Nf.nd e F).1.1, fv, lv']) ∧ NPost w0 pb v2 v5 e S O L F q T w fv lv' w'

set_option maxRecDepth 100000 in
set_option maxHeartbeats 2000000 in
theorem node_leaf (w0 : World) (pb : Nat) (v2 v5 : Value) (k : Int) (s : List Pc) (sv lv : Value) (hk : k = 0 ∨ k = 1) (w : World) (T : Nat → Prop) (vS vO vL vF : Value) (ss fs : List Value) (S : List (List Pc)) (O : List Int) (L : List Bool) (F : List (List Int)) (q : Int)
    (h : RN w0 w pb T vS vO v2 vL vF v5 ss fs S O L F) (hsv : ∃ o a c, sv = .slice o a c) (hlv : ∃ o a c, lv = .slice o a c) :
    Calls Tryz.prog 45 #[.pointer (some ⟨pb, 0, none⟩), .agg #[.int .i64 k, sv, lv], .int .i64 q] w fun x w' => ∃ fv lv', x = .returned (.agg #[.bool (Nf.nd (.mk k s []) F).1.1, fv, lv']) ∧ NPost w0 pb v2 v5 (.mk k s []) S O L F q T w fv lv' w' := by
  have hpost : ∀ w', Below w.heap.size w w' → NPost w0 pb v2 v5 (.mk k s []) S O L F q T w (.slice none 0 0) (.slice none 0 0) w' := fun w' hb => by
    have e : Nf.sts (.mk k s []) = [] := by rcases hk with rfl | rfl <;> simp [Nf.sts_mk, Nf.stsL_nil]
    have e2 : (Nf.nd (.mk k s []) F).2 = F ∧ (Nf.nd (.mk k s []) F).1.2.1 = [] ∧ (Nf.nd (.mk k s []) F).1.2.2 = [] := by rcases hk with rfl | rfl <;> simp [Nf.nd_nil]
    refine ⟨T, vS, vO, vL, vF, ss, fs, ?_, RTr.old hb, ?_, ?_⟩
    · rw [e, e2.1]; simpa using h.moved hb
    · rw [e2.2.1]; exact PRd.nil _ _ _
    · rw [e2.2.2]; exact PRd.nil _ _ _
  have he : (Nf.nd (.mk k s []) F).1.1 = decide (k = 1) := by rcases hk with rfl | rfl <;> simp [Nf.nd_nil]
  rw [he]
  have H := Lib.hid hpost
  obtain ⟨o1, a1, c1, rfl⟩ := hsv
  obtain ⟨o2, a2, c2, rfl⟩ := hlv
  clear h hpost
  rcases hk with rfl | rfl
  · go_enter Tryz.func45, Tryz.ntmps45
    go_wp2_with fail
    obtain ⟨d0, d1, d2⟩ := part_cells (World.alloc_heap_new (w.alloc (.cells #[.int .i64 0, .slice o1 a1 c1, .slice o2 a2 c2] 41)) (.cells #[.bool false, .slice none 0 0, .slice none 0 0] 80))
    rw [World.size_alloc] at d0 d1 d2
    simp [bodyPost, results, Tryz.results45, go_sem, d0, d1, d2]
    exact ⟨_, _, ⟨rfl, rfl⟩, H.out _ (bel_new (bel_new (Below.refl _ _) _) _)⟩
  · go_enter Tryz.func45, Tryz.ntmps45
    go_wp2_with fail
    obtain ⟨d0, d1, d2⟩ := part_cells (World.alloc_heap_new (w.alloc (.cells #[.int .i64 1, .slice o1 a1 c1, .slice o2 a2 c2] 41)) (.cells #[.bool true, .slice none 0 0, .slice none 0 0] 80))
    rw [World.size_alloc] at d0 d1 d2
    simp [bodyPost, results, Tryz.results45, go_sem, d0, d1, d2]
    exact ⟨_, _, ⟨rfl, rfl⟩, H.out _ (bel_new (bel_new (Below.refl _ _) _) _)⟩
end Go.Proofs.YtmgfpcblbbpahaaGreat

namespace Go.Proofs.YtmgfpcblbbpahaaGreat
open Go.RowKit Ru Rn Rn.Ru

section
variable {w0 w : World} {pb : Nat} {T : Nat → Prop} {v2 v5 vS vO vL vF va vb : Value} {ss fs : List Value} {S : List (List Pc)} {O a b : List Int} {L : List Bool} {F : List (List Int)}
theorem node_link (h : RN w0 w pb T vS vO v2 vL vF v5 ss fs S O L F) (hFo : ∀ r ∈ F, DnOk F.length r) (h0 : 0 < F.length) (hS : S.length ≤ 1000) (ha : PRd w w0.heap.size T va a) (hb : PRd w w0.heap.size T vb b) (hao : DnOk F.length a) (hbo : DnOk F.length b) :
    Calls Tryz.prog 73 #[.pointer (some ⟨pb, 0, none⟩), va, vb] w fun e w' => (∃ x, e = .returned x) ∧ ∃ fs', RN w0 w' pb T vS vO v2 vL vF v5 ss fs' S O L (linkD b F a) ∧ RTr T w T w' := by
  obtain ⟨g, c, cur, hv, hBg, hgb, _⟩ := h.fol.at h0
  have hpg : pb ≠ g := fun e => by rw [← e, h.blk] at hgb; simp at hgb
  have hl := h.lenF
  have hkp : ∀ (x : Value) (l : List Int), PRd w w0.heap.size T x l → KP (fun j => j ≠ g) w (fun w' => Row w' x l.length (ints1 l)) := fun x l hx w' hw' =>
    Row.owned (owns_ag hx.own hw' fun j hj e => own_apart hx.own hgb (by decide) (e ▸ hj))
  have h4 : w.cell? ⟨pb, 4, none⟩ = some (.slice (some ⟨g, 0, none⟩) F.length c) := by rw [← hv]; simp [World.cell?, h.blk]
  have hf := h.fol
  rw [hv] at hf
  have haL := hao.len
  have hbL := hbo.len
  refine (rlink_any F.length w0.heap.size pb g c (fun j => ¬ T j) w (fun j hj hT => by have := (h.tlt j hT).2; omega) fs F hf (by omega) hFo h.low.2 hpg h.bel.size h4 a b va vb (hkp va a ha) (hkp vb b hb) hao.in hbo.in (by omega) (by omega)).mono ?_
  rintro e w' ⟨hx, ⟨vk, hk⟩, hag⟩
  rw [← hv] at hk
  obtain ⟨h1, h2⟩ := h.linked (linkD_len b a F) hv hk hag
  exact ⟨hx, vk, h1, h2⟩
theorem RTr.no {T T' : Nat → Prop} {w w' : World} (k : RTr T w T' w') {j : Nat} (hj : ¬ T j) (hl : j < w.heap.size) : ¬ T' j := fun h => by
  rcases k.new j h with h1 | h1
  · exact hj h1
  · omega
theorem RTr.get {T T' : Nat → Prop} {w w' : World} (k : RTr T w T' w') {j : Nat} {o : Obj} (hj : ¬ T j) (ho : w.heap[j]? = some o) : w'.heap[j]? = some o := by
  rw [k.ag.block j (Array.getElem?_eq_some_iff.1 ho).1 hj]; exact ho
end
theorem pset0 {w : World} {b : Nat} {x y z : Value} {t : TypeId} (h : w.heap[b]? = some (.cells #[x, y, z] t (0, 0))) (v : Value) : (w.setCell ⟨b, 0, none⟩ v).heap[b]? = some (.cells #[v, y, z] t (0, 0)) := by simp [World.setCell, Array.getElem?_modify, h]
theorem pset1 {w : World} {b : Nat} {x y z : Value} {t : TypeId} (h : w.heap[b]? = some (.cells #[x, y, z] t (0, 0))) (v : Value) : (w.setCell ⟨b, 1, none⟩ v).heap[b]? = some (.cells #[x, v, z] t (0, 0)) := by simp [World.setCell, Array.getElem?_modify, h]
theorem pset2 {w : World} {b : Nat} {x y z : Value} {t : TypeId} (h : w.heap[b]? = some (.cells #[x, y, z] t (0, 0))) (v : Value) : (w.setCell ⟨b, 2, none⟩ v).heap[b]? = some (.cells #[x, y, v] t (0, 0)) := by simp [World.setCell, Array.getElem?_modify, h]
set_option maxRecDepth 100000 in
set_option maxHeartbeats 4000000 in
theorem node_star (w0 : World) (pb : Nat) (v2 v5 : Value) (N : Nat) (ih : NIh w0 pb v2 v5 N) (s : List Pc) (a : RE) (sv lv : Value) (hsz : a.size ≤ N) (hp : a.prt = true) (hre : ReIs w0 (.mk 5 s [a]) sv lv)
    (w : World) (T : Nat → Prop) (vS vO vL vF : Value) (ss fs : List Value) (S : List (List Pc)) (O : List Int) (L : List Bool) (F : List (List Int)) (q : Int)
    (h : RN w0 w pb T vS vO v2 vL vF v5 ss fs S O L F) (hF : ∀ r ∈ F, DnOk F.length r) (h0 : 0 < F.length) (hS : S.length + (a.size + 1) ≤ 1000) :
    Calls Tryz.prog 45 #[.pointer (some ⟨pb, 0, none⟩), .agg #[.int .i64 5, sv, lv], .int .i64 q] w fun x w' => ∃ fv lv', x = .returned (.agg #[.bool true, fv, lv']) ∧ NPost w0 pb v2 v5 (.mk 5 s [a]) S O L F q T w fv lv' w' := by
  have hform : ∃ o c, sv = .slice o s.length c := hre.form.1
  obtain ⟨o1, q1, rfl⟩ := hform
  have hpart : ∃ b off cap s' l', lv = .slice (some ⟨b, off, none⟩) 1 cap ∧ b < w0.heap.size ∧ w0.cell? ⟨b, off + 0 * 3, none⟩ = some (.int .i64 a.kind) ∧ w0.cell? ⟨b, off + 0 * 3 + 1, none⟩ = some s' ∧ w0.cell? ⟨b, off + 0 * 3 + 2, none⟩ = some l' ∧ ReIs w0 a s' l' := hre.part (i := 0) (p := a) rfl
  obtain ⟨b, off, cap, s', l', rfl, hb, k0, k1, k2, hra⟩ := hpart
  obtain ⟨⟨o3, q3, rfl⟩, ⟨o4, q4, rfl⟩⟩ := hra.form
  have hself := Nf.nd_self a hp F hF
  have es : Nf.sts (.mk 5 s [a]) = Nf.sts a := by simp [Nf.sts_mk, Nf.stsL_cons, Nf.stsL_nil]
  obtain ⟨x, hx⟩ : ∃ x, Nf.nd a F = x := ⟨_, rfl⟩
  have hsts := Nf.sts_size a.size a (Nat.le_refl _) hp
  obtain ⟨W, hW⟩ : ∃ W, W = (w.alloc (.cells #[.int .i64 5, .slice o1 s.length q1, .slice (some ⟨b, off, none⟩) 1 cap] 41)).alloc (.cells #[.bool false, .slice none 0 0, .slice none 0 0] 80) := ⟨_, rfl⟩
  have hbW : Below w.heap.size w W := by rw [hW]; exact bel_new (bel_new (Below.refl _ _) _) _
  have hsW : W.heap.size = w.heap.size + 2 := by rw [hW]; simp
  have hih := ih a _ _ hsz hp hra W T vS vO vL vF ss fs S O L F q (h.moved hbW) hF h0 (by omega)
  rw [hx, hW] at hih
  rw [hx] at hself
  have hbw := Nat.lt_of_lt_of_le hb h.bel.size
  have c0 := (h.bel.cell (p := ⟨b, off, none⟩) hb).trans (by simpa using k0)
  have c1 := (h.bel.cell (p := ⟨b, off + 1, none⟩) hb).trans (by simpa using k1)
  have c2 := (h.bel.cell (p := ⟨b, off + 2, none⟩) hb).trans (by simpa using k2)
  have hsl : ([a] : List RE).length = 1 := rfl
  have H := Lib.hid h
  have HW := Lib.hid hW
  have HBW := Lib.hid hbW
  have HSE := Lib.hid hself
  have HIH := Lib.hid hih
  have HX := Lib.hid hx
  have HES := Lib.hid es
  clear h hW hbW hself hih hx hre hra k0 k1 k2 hF es
  go_enter Tryz.func45, Tryz.ntmps45
  go_wp2_with (first
    | (go_at_call 45; refine HIH.out.mono ?_; rintro e w1 ⟨fv, lv', rfl, hpost⟩; obtain ⟨T1, vS1, vO1, vL1, vF1, ss1, fs1, hrn1, htr1, hfr, hlr⟩ := hpost.st; rw [HX.out] at hrn1 hfr hlr; obtain ⟨of, cf, rfl⟩ := hfr.form; obtain ⟨ol, cl, rfl⟩ := hlr.form))
  rw [← HW.out] at htr1
  obtain ⟨s1, s2, s3, s4⟩ := HSE.out
  obtain ⟨W2, hW2⟩ : ∃ W2, W2 = w1.alloc (.cells #[.bool x.1.1, .slice of x.1.2.1.length cf, .slice ol x.1.2.2.length cl] 80) := ⟨_, rfl⟩
  have hb2 : Below w1.heap.size w1 W2 := by rw [hW2]; exact bel_new (Below.refl _ _) _
  have hlk := node_link (hrn1.moved hb2) s4 (by omega) (by rw [List.length_append]; omega) (hlr.moved hb2) (hfr.moved hb2) s3 s2
  rw [hW2] at hlk
  refine hlk.mono ?_
  rintro e w3 ⟨⟨xx, rfl⟩, fs3, hrn3, htr3⟩
  rw [← hW2] at htr3
  have htr : RTr T W T1 w3 := (htr1.trans (RTr.old hb2)).trans htr3
  have hn8 : ¬ T1 w1.heap.size := fun hT => by have := (hrn1.tlt _ hT).2; omega
  have h83 := htr3.get hn8 (show W2.heap[w1.heap.size]? = some (.cells #[.bool x.1.1, .slice of x.1.2.1.length cf, .slice ol x.1.2.2.length cl] 80 (0, 0)) by rw [hW2]; exact World.alloc_heap_new w1 _)
  have h6 : W.heap[w.heap.size + 1]? = some (.cells #[.bool false, .slice none 0 0, .slice none 0 0] 80 (0, 0)) := by
    rw [HW.out]
    have := World.alloc_heap_new (w.alloc (.cells #[.int .i64 5, .slice o1 s.length q1, .slice (some ⟨b, off, none⟩) 1 cap] 41)) (.cells #[.bool false, .slice none 0 0, .slice none 0 0] 80)
    rwa [World.size_alloc] at this
  have hn6 : ¬ T (w.heap.size + 1) := fun hT => by have := (H.out.tlt _ hT).2; omega
  have h63 := htr.get hn6 h6
  have hfr3 := (hfr.moved hb2).tr htr3
  have hlr3 := (hlr.moved hb2).tr htr3
  obtain ⟨d0, d1, d2⟩ := part_cells h83
  obtain ⟨z0, z1, z2⟩ := part_froz h63
  obtain ⟨y0, y1, y2⟩ := part_cells h63
  have hn63 : ¬ T1 (w.heap.size + 1) := htr.no hn6 (by omega)
  have hs13 : w1.heap.size ≤ w3.heap.size := by have := htr3.ag.size; have := hb2.size; omega
  have hs3 : W.heap.size ≤ w3.heap.size := htr.ag.size
  have hs1 : W.heap.size ≤ w1.heap.size := htr1.ag.size
  have HF := Lib.hid (And.intro hrn3 (And.intro htr (And.intro hfr3 (And.intro hlr3 (And.intro h63 hn63)))))
  clear hrn3 htr hfr3 hlr3 h63 h6 h83 htr3 hlk hb2 hrn1 htr1 hfr hlr hpost hn6 hn8 hn63
  go_wp2_with fail
  have hfin := set3_at HF.out.2.2.2.2.1 (.bool true) (.slice of x.1.2.1.length cf) (.slice ol x.1.2.2.length cl)
  obtain ⟨f0, f1, f2⟩ := part_cells hfin
  simp [bodyPost, results, Tryz.results45, go_sem, f0, f1, f2]
  obtain ⟨hrn3, htr, hfr3, hlr3, h63, hn63⟩ := HF.out
  have hbs := H.out.bel.size
  have h64 : (w3.setCell ⟨w.heap.size + 1, 0, none⟩ (.bool true)).heap[w.heap.size + 1]? = some (.cells #[.bool true, .slice none 0 0, .slice none 0 0] 80 (0, 0)) := pset0 h63 _
  have h65 : ((w3.setCell ⟨w.heap.size + 1, 0, none⟩ (.bool true)).setCell ⟨w.heap.size + 1, 1, none⟩ (.slice of x.1.2.1.length cf)).heap[w.heap.size + 1]? = some (.cells #[.bool true, .slice of x.1.2.1.length cf, .slice none 0 0] 80 (0, 0)) := pset1 h64 _
  refine ⟨_, _, ⟨rfl, rfl⟩, T1, vS1, vO1, vL1, vF1, ss1, fs3, ?_, ?_, ?_, ?_⟩
  · rw [HES.out, Nf.nd_star, HX.out]
    exact (((hrn3.set (p := ⟨w.heap.size + 1, 0, none⟩) h63 (by decide) (by decide) (by decide) (by decide) (by decide) (by show w0.heap.size ≤ w.heap.size + 1; omega) _).set (p := ⟨w.heap.size + 1, 1, none⟩) h64 (by decide) (by decide) (by decide) (by decide) (by decide) (by show w0.heap.size ≤ w.heap.size + 1; omega) _).set (p := ⟨w.heap.size + 1, 2, none⟩) h65 (by decide) (by decide) (by decide) (by decide) (by decide) (by show w0.heap.size ≤ w.heap.size + 1; omega) _)
  · have hT : w.heap.size ≤ w.heap.size + 1 := by omega
    exact ((((RTr.old HBW.out).trans htr).set hT _).set hT _).set hT _
  · rw [Nf.nd_star, HX.out]
    exact ((hfr3.set (p := ⟨w.heap.size + 1, 0, none⟩) h63 (by decide) _).set (p := ⟨w.heap.size + 1, 1, none⟩) h64 (by decide) _).set (p := ⟨w.heap.size + 1, 2, none⟩) h65 (by decide) _
  · rw [Nf.nd_star, HX.out]
    exact ((hlr3.set (p := ⟨w.heap.size + 1, 0, none⟩) h63 (by decide) _).set (p := ⟨w.heap.size + 1, 1, none⟩) h64 (by decide) _).set (p := ⟨w.heap.size + 1, 2, none⟩) h65 (by decide) _
end Go.Proofs.YtmgfpcblbbpahaaGreat
