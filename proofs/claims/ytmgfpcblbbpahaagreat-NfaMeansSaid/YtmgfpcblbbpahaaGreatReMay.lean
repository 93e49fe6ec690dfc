/- regex: shaped, May. -/
import Derived.WalkKit
import Derived.Lib.Hide
import Derived.Deep.QuietTactic
import Derived.BigQuiet
import Derived.Test.YtmgfpcblbbpahaaGreatRe
import Derived.Test.YtmgfpcblbbpahaaGreatSetsG1
import Derived.Deep.LoopGhost
import Derived.WalkSpells
set_option linter.unusedVariables false
set_option linter.unusedSimpArgs false
namespace Go.Proofs.YtmgfpcblbbpahaaGreat
open Go.RowKit

structure Ch (w w' : World) (p : Nat) : Prop where
  os : w'.os = w.os
  tape : w'.tape = w.tape
  output : w'.output = w.output
  size : w.heap.size ≤ w'.heap.size
  block : ∀ k, k < w.heap.size → k ≠ p → w'.heap[k]? = w.heap[k]?
theorem hp_lt {w : World} {q : Nat} {o : Obj} (h : w.heap[q]? = some o) : q < w.heap.size := by
  rcases Nat.lt_or_ge q w.heap.size with h1 | h1; exact h1; rw [Array.getElem?_eq_none h1] at h; cases h
theorem Ch.refl (w : World) (p : Nat) : Ch w w p := ⟨rfl, rfl, rfl, Nat.le_refl _, fun _ _ _ => rfl⟩
theorem Ch.trans {a b c : World} {p : Nat} (h : Ch a b p) (k : Ch b c p) : Ch a c p :=
  ⟨k.os.trans h.os, k.tape.trans h.tape, k.output.trans h.output, Nat.le_trans h.size k.size, fun j hj hp => by have := h.size; rw [k.block j (by omega) hp, h.block j hj hp]⟩
theorem Ch.of {w w' : World} {p : Nat} (h : Below w.heap.size w w') : Ch w w' p := ⟨h.os, h.tape, h.output, h.size, fun k hk _ => h.block k hk⟩
theorem Ch.set (w : World) (p i : Nat) (x : Value) : Ch w (w.setCell ⟨p, i, none⟩ x) p :=
  ⟨rfl, rfl, rfl, by simp [World.setCell], fun k _ hp => Below.heap_setCell _ _ _ _ hp⟩
theorem Ch.bel' {a b c : World} {p : Nat} (h : Ch a b p) (k : Below b.heap.size b c) : Ch a c p := h.trans (Ch.of k)
theorem Ch.new (w : World) (o : Obj) (p : Nat) : Ch w (w.alloc o) p := Ch.of (bel_new (Below.refl _ _) o)
theorem Ch.setNew {w w' : World} {p E i : Nat} {x : Value} (h : Ch w w' p) (hE : w.heap.size ≤ E) : Ch w (w'.setCell ⟨E, i, none⟩ x) p :=
  ⟨h.os, h.tape, h.output, by simpa [World.setCell] using h.size, fun k hk hp => by rw [Below.heap_setCell _ _ _ _ (by simp; omega)]; exact h.block k hk hp⟩
theorem Ch.after {w0 w w' : World} {p : Nat} (h : Below w0.heap.size w0 w) (k : Ch w w' p) (hp : w0.heap.size ≤ p) : Below w0.heap.size w0 w' :=
  h.trans ⟨k.os, k.tape, k.output, k.size, fun j hj => k.block j (by have := h.size; omega) (by omega)⟩
theorem Ch.get {w w' : World} {p q : Nat} {o : Obj} (h : Ch w w' p) (hq : w.heap[q]? = some o) (hne : q ≠ p) : w'.heap[q]? = some o := by rw [h.block q (hp_lt hq) hne]; exact hq
theorem bel_get {w w' : World} {q : Nat} {o : Obj} (h : Below w.heap.size w w') (hq : w.heap[q]? = some o) : w'.heap[q]? = some o := by rw [h.block q (hp_lt hq)]; exact hq
theorem cell1_of {w : World} {p : Nat} {a : Value} {t : TypeId} (h : w.heap[p]? = some (.cells #[a] t (0, 0))) :
    w.cell? ⟨p, 0, none⟩ = some a ∧ w.frozen? ⟨p, 0, none⟩ = false := by
  simp [World.cell?, World.frozen?, h]
theorem cell1_set {w : World} {p : Nat} {a : Value} {t : TypeId} (h : w.heap[p]? = some (.cells #[a] t (0, 0))) (x : Value) : (w.setCell ⟨p, 0, none⟩ x).heap[p]? = some (.cells #[x] t (0, 0)) := by
  simp [World.setCell, Array.getElem?_modify, h]
end Go.Proofs.YtmgfpcblbbpahaaGreat

namespace Go.Proofs.YtmgfpcblbbpahaaGreat
open Go.RowKit Ru

namespace RE
def shp (e : RE) : Bool :=
  if e.kind = 2 then decide (1 ≤ e.set.length) && (decide (e.set.length ≤ 20) && (mayB e.set && decide (e.parts.length = 0)))
  else if 0 < e.set.length then false
  else if e.kind = 0 ∨ e.kind = 1 then decide (e.parts.length = 0)
  else if e.kind = 5 then decide (e.parts.length = 1)
  else if e.kind = 3 ∨ e.kind = 4 then decide (e.parts.length = 2)
  else false
inductive Fit : RE → Prop
  | mk (k : Int) (s : List (Int × Int)) (l : List RE) (hs : i32s s) (hn : s.length ≤ 1000) (hl : l.length ≤ 1000) (h : ∀ (i : Nat) (e : RE), l[i]? = some e → Fit e) : Fit (.mk k s l)
theorem Fit.sets {e : RE} (h : Fit e) : i32s e.set ∧ e.set.length ≤ 1000 ∧ e.parts.length ≤ 1000 := by cases h; exact ⟨by assumption, by assumption, by assumption⟩
theorem Fit.part {e p : RE} {i : Nat} (h : Fit e) (hp : e.parts[i]? = some p) : Fit p := by cases h with | mk k s l hs hn hl h => exact h i p hp
mutual
def vis : RE → Nat → Nat → Bool × Nat
  | .mk k s l, n, deep => if 60 < n + 1 ∨ 12 < deep ∨ shp (.mk k s l) = false then (false, n + 1) else visL l (n + 1) (deep + 1)
def visL : List RE → Nat → Nat → Bool × Nat
  | [], n, _ => (true, n)
  | e :: l, n, deep => if (vis e n deep).1 = true then visL l (vis e n deep).2 deep else (false, (vis e n deep).2)
end
theorem vis_eq (e : RE) (n deep : Nat) : vis e n deep = if 60 < n + 1 ∨ 12 < deep ∨ shp e = false then (false, n + 1) else visL e.parts (n + 1) (deep + 1) := by cases e; rw [vis]; rfl
theorem visL_nil (n deep : Nat) : visL [] n deep = (true, n) := by rw [visL]
theorem visL_cons (e : RE) (l : List RE) (n deep : Nat) : visL (e :: l) n deep = if (vis e n deep).1 = true then visL l (vis e n deep).2 deep else (false, (vis e n deep).2) := by rw [visL]
def may (e : RE) : Bool := (vis e 0 1).1
end RE

set_option maxHeartbeats 8000000 in
set_option maxRecDepth 100000 in
theorem reShaped_any (e : RE) (sv lv : Value) (w : World) (h : ReIs w e sv lv) (hf : e.Fit) :
    Calls Tryz.prog 51 #[.agg #[.int .i64 e.kind, sv, lv]] w fun x w' => x = .returned (.bool e.shp) ∧ Below w.heap.size w w' := by
  obtain ⟨⟨o1, q1, rfl⟩, ⟨o2, q2, rfl⟩⟩ := h.form
  have hF := hf.sets
  have hs := h.set
  have hshp : e.shp = if e.kind = 2 then decide (1 ≤ e.set.length) && (decide (e.set.length ≤ 20) && (mayB e.set && decide (e.parts.length = 0)))
    else if 0 < e.set.length then false
    else if e.kind = 0 ∨ e.kind = 1 then decide (e.parts.length = 0)
    else if e.kind = 5 then decide (e.parts.length = 1)
    else if e.kind = 3 ∨ e.kind = 4 then decide (e.parts.length = 2)
    else false := rfl
  obtain ⟨k, hk⟩ : ∃ k, k = e.kind := ⟨_, rfl⟩
  obtain ⟨s, hs0⟩ : ∃ s, s = e.set := ⟨_, rfl⟩
  obtain ⟨m, hm⟩ : ∃ m, m = e.parts.length := ⟨_, rfl⟩
  have hmay := fun w' (hb : Below w.heap.size w w') => mayR_any s (.slice o1 s.length q1) w' (by rw [hs0]; exact hs.below hb) (by rw [hs0]; exact hF.1) (by rw [hs0]; omega)
  rw [← hk, ← hs0, ← hm] at hshp
  have hl1 : s.length ≤ 1000 := by rw [hs0]; omega
  have hl2 : m ≤ 1000 := by omega
  rw [← hk, ← hs0, ← hm]
  obtain ⟨mb, hmb⟩ : ∃ mb, mb = mayB s := ⟨_, rfl⟩
  rw [← hmb] at hshp hmay
  obtain ⟨n, hn⟩ : ∃ n, n = s.length := ⟨_, rfl⟩
  rw [← hn] at hshp hmay hl1 ⊢
  obtain ⟨r, hr⟩ : ∃ r, r = e.shp := ⟨_, rfl⟩
  rw [← hr] at hshp ⊢
  have HM := Lib.hid hmay
  clear hmay hn hmb hr hs hF hf h hk hs0 hm
  by_cases k2 : k = 2
  · rw [if_pos k2] at hshp
    subst k2
    by_cases n1 : 1 ≤ n
    · by_cases n2 : n ≤ 20
      · have HS := Lib.hid hshp
        have d1 : decide ((1 : Int) ≤ (n : Int)) = true := by simp; omega
        have d2 : decide ((n : Int) ≤ 20) = true := by simp; omega
        have g1 : decide (1 ≤ n) = true := by simpa using n1
        have g2 : decide (n ≤ 20) = true := by simpa using n2
        cases hb : mb with
        | true =>
          rw [hb] at HM HS
          have HX := Lib.hid (show r = decide (m = 0) by have := HS.out; rw [g1, g2] at this; simpa using this)
          clear HS hshp
          go_enter Tryz.func51, Tryz.ntmps51
          go_wp2_with fail
          refine (HM.out _ (bel_new (Below.refl _ _) _)).mono ?_
          rintro x w1 ⟨rfl, hb1⟩
          have c0 : w1.cell? ⟨w.heap.size, 2, none⟩ = some (.slice o2 m q2) := cell_later hb1 (by simp [go_sem])
          have HB := Lib.hid (bel_then (bel_new (Below.refl _ _) _) hb1)
          clear hb1
          go_wp2_with fail
          go_ret
          exact ⟨by rw [HX.out]; by_cases h0 : m = 0 <;> simp [h0], HB.out⟩
        | false =>
          rw [hb] at HM HS
          have HX := Lib.hid (show r = false by have := HS.out; simpa using this)
          clear HS hshp
          go_enter Tryz.func51, Tryz.ntmps51
          go_wp2_with fail
          refine (HM.out _ (bel_new (Below.refl _ _) _)).mono ?_
          rintro x w1 ⟨rfl, hb1⟩
          have HB := Lib.hid (bel_then (bel_new (Below.refl _ _) _) hb1)
          clear hb1
          go_wp2_with fail
          go_ret
          exact ⟨by rw [HX.out]; rfl, HB.out⟩
      · have d1 : decide ((1 : Int) ≤ (n : Int)) = true := by simp; omega
        have d2 : decide ((n : Int) ≤ 20) = false := by simp; omega
        have g2 : decide (n ≤ 20) = false := by simpa using n2
        have HX := Lib.hid (show r = false by rw [hshp, g2]; simp)
        clear hshp
        go_enter Tryz.func51, Tryz.ntmps51
        go_wp2_with fail
        go_ret
        exact ⟨by rw [HX.out]; rfl, bel_new (Below.refl _ _) _⟩
    · have d1 : decide ((1 : Int) ≤ (n : Int)) = false := by simp; omega
      have g1 : decide (1 ≤ n) = false := by simpa using n1
      have HX := Lib.hid (show r = false by rw [hshp, g1]; simp)
      clear hshp
      go_enter Tryz.func51, Tryz.ntmps51
      go_wp2_with fail
      go_ret
      exact ⟨by rw [HX.out]; rfl, bel_new (Below.refl _ _) _⟩
  · rw [if_neg k2] at hshp
    have e2 : (k == 2) = false := by simpa using k2
    by_cases n0 : 0 < n
    · have d0 : decide ((0 : Int) < (n : Int)) = true := by simp; omega
      have HX := Lib.hid (show r = false by rw [hshp, if_pos n0])
      clear hshp
      go_enter Tryz.func51, Tryz.ntmps51
      go_wp2_with fail
      go_ret
      exact ⟨by rw [HX.out]; rfl, bel_new (Below.refl _ _) _⟩
    · have d0 : decide ((0 : Int) < (n : Int)) = false := by simp; omega
      rw [if_neg n0] at hshp
      have hz : n = 0 := by omega
      subst hz
      by_cases a0 : k = 0
      · subst a0
        have HX := Lib.hid (show r = decide (m = 0) by rw [hshp]; simp)
        clear hshp
        go_enter Tryz.func51, Tryz.ntmps51
        go_wp2_with fail
        go_ret
        exact ⟨by rw [HX.out]; by_cases h0 : m = 0 <;> simp [h0], bel_new (Below.refl _ _) _⟩
      by_cases a1 : k = 1
      · subst a1
        have HX := Lib.hid (show r = decide (m = 0) by rw [hshp]; simp)
        clear hshp
        go_enter Tryz.func51, Tryz.ntmps51
        go_wp2_with fail
        go_ret
        exact ⟨by rw [HX.out]; by_cases h0 : m = 0 <;> simp [h0], bel_new (Below.refl _ _) _⟩
      by_cases a5 : k = 5
      · subst a5
        have HX := Lib.hid (show r = decide (m = 1) by rw [hshp]; simp)
        clear hshp
        go_enter Tryz.func51, Tryz.ntmps51
        go_wp2_with fail
        go_ret
        exact ⟨by rw [HX.out]; by_cases h0 : m = 1 <;> simp [h0] <;> omega, bel_new (Below.refl _ _) _⟩
      by_cases a3 : k = 3
      · subst a3
        have HX := Lib.hid (show r = decide (m = 2) by rw [hshp]; simp)
        clear hshp
        go_enter Tryz.func51, Tryz.ntmps51
        go_wp2_with fail
        go_ret
        exact ⟨by rw [HX.out]; by_cases h0 : m = 2 <;> simp [h0] <;> omega, bel_new (Below.refl _ _) _⟩
      by_cases a4 : k = 4
      · subst a4
        have HX := Lib.hid (show r = decide (m = 2) by rw [hshp]; simp)
        clear hshp
        go_enter Tryz.func51, Tryz.ntmps51
        go_wp2_with fail
        go_ret
        exact ⟨by rw [HX.out]; by_cases h0 : m = 2 <;> simp [h0] <;> omega, bel_new (Below.refl _ _) _⟩
      have HX := Lib.hid (show r = false by rw [hshp, if_neg (by omega), if_neg a5, if_neg (by omega)])
      have b0 : (k == 0) = false := by simpa using a0
      have b1 : (k == 1) = false := by simpa using a1
      have b3 : (k == 3) = false := by simpa using a3
      have b4 : (k == 4) = false := by simpa using a4
      have b5 : (k == 5) = false := by simpa using a5
      clear hshp
      go_enter Tryz.func51, Tryz.ntmps51
      go_wp2_with fail
      go_ret
      exact ⟨by rw [HX.out]; rfl, bel_new (Below.refl _ _) _⟩
end Go.Proofs.YtmgfpcblbbpahaaGreat
