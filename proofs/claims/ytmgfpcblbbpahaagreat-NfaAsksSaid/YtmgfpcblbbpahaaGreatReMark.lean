/- regex: mark, Empty. -/
import Derived.WalkKit
import Derived.Lib.Hide
import Derived.Deep.QuietTactic
import Derived.BigQuiet
import Derived.Test.YtmgfpcblbbpahaaGreatRe
import Derived.Test.YtmgfpcblbbpahaaGreatSetsG1
import Derived.Deep.LoopGhost
import Derived.WalkSpells
import Derived.Laws.EntriesVeiled
import Derived.Test.YtmgfpcblbbpahaaGreatBut
import Derived.Deep.RegionHeld3
import Derived.Deep.AppendLies
import Derived.Deep.RegionLaw
set_option linter.unusedVariables false
set_option linter.unusedSimpArgs false
namespace Go.Proofs.YtmgfpcblbbpahaaGreat
open Go.RowKit

structure Ch (w w' : World) (p : Nat) : Prop where
  os : w'.os = w.os
  tape : w'.tape = w.tape
  output : w'.output = w.output
  size : w.heap.size ≤ w'.heap.size
  block : ∀ k, k < w.heap.size → k ≠ p → w'.heap[k]? = w.heap[k]?
theorem hp_lt {w : World} {q : Nat} {o : Obj} (h : w.heap[q]? = some o) : q < w.heap.size := by
  rcases Nat.lt_or_ge q w.heap.size with h1 | h1; exact h1; rw [Array.getElem?_eq_none h1] at h; cases h
theorem Ch.refl (w : World) (p : Nat) : Ch w w p := ⟨rfl, rfl, rfl, Nat.le_refl _, fun _ _ _ => rfl⟩
theorem Ch.trans {a b c : World} {p : Nat} (h : Ch a b p) (k : Ch b c p) : Ch a c p :=
  ⟨k.os.trans h.os, k.tape.trans h.tape, k.output.trans h.output, Nat.le_trans h.size k.size, fun j hj hp => by have := h.size; rw [k.block j (by omega) hp, h.block j hj hp]⟩
theorem Ch.of {w w' : World} {p : Nat} (h : Below w.heap.size w w') : Ch w w' p := ⟨h.os, h.tape, h.output, h.size, fun k hk _ => h.block k hk⟩
theorem Ch.set (w : World) (p i : Nat) (x : Value) : Ch w (w.setCell ⟨p, i, none⟩ x) p :=
  ⟨rfl, rfl, rfl, by simp [World.setCell], fun k _ hp => Below.heap_setCell _ _ _ _ hp⟩
theorem Ch.bel' {a b c : World} {p : Nat} (h : Ch a b p) (k : Below b.heap.size b c) : Ch a c p := h.trans (Ch.of k)
theorem Ch.new (w : World) (o : Obj) (p : Nat) : Ch w (w.alloc o) p := Ch.of (bel_new (Below.refl _ _) o)
theorem Ch.setNew {w w' : World} {p E i : Nat} {x : Value} (h : Ch w w' p) (hE : w.heap.size ≤ E) : Ch w (w'.setCell ⟨E, i, none⟩ x) p :=
  ⟨h.os, h.tape, h.output, by simpa [World.setCell] using h.size, fun k hk hp => by rw [Below.heap_setCell _ _ _ _ (by simp; omega)]; exact h.block k hk hp⟩
theorem Ch.after {w0 w w' : World} {p : Nat} (h : Below w0.heap.size w0 w) (k : Ch w w' p) (hp : w0.heap.size ≤ p) : Below w0.heap.size w0 w' :=
  h.trans ⟨k.os, k.tape, k.output, k.size, fun j hj => k.block j (by have := h.size; omega) (by omega)⟩
theorem Ch.get {w w' : World} {p q : Nat} {o : Obj} (h : Ch w w' p) (hq : w.heap[q]? = some o) (hne : q ≠ p) : w'.heap[q]? = some o := by rw [h.block q (hp_lt hq) hne]; exact hq
theorem bel_get {w w' : World} {q : Nat} {o : Obj} (h : Below w.heap.size w w') (hq : w.heap[q]? = some o) : w'.heap[q]? = some o := by rw [h.block q (hp_lt hq)]; exact hq
theorem cell1_set {w : World} {p : Nat} {a : Value} {t : TypeId} (h : w.heap[p]? = some (.cells #[a] t (0, 0))) (x : Value) : (w.setCell ⟨p, 0, none⟩ x).heap[p]? = some (.cells #[x] t (0, 0)) := by
  simp [World.setCell, Array.getElem?_modify, h]
end Go.Proofs.YtmgfpcblbbpahaaGreat

namespace Go.Proofs.YtmgfpcblbbpahaaGreat
open Go.RowKit Ru

namespace RE
def shp (e : RE) : Bool :=
  if e.kind = 2 then decide (1 ≤ e.set.length) && (decide (e.set.length ≤ 20) && (mayB e.set && decide (e.parts.length = 0)))
  else if 0 < e.set.length then false
  else if e.kind = 0 ∨ e.kind = 1 then decide (e.parts.length = 0)
  else if e.kind = 5 then decide (e.parts.length = 1)
  else if e.kind = 3 ∨ e.kind = 4 then decide (e.parts.length = 2)
  else false
inductive Fit : RE → Prop
  | mk (k : Int) (s : List (Int × Int)) (l : List RE) (hs : i32s s) (hn : s.length ≤ 1000) (hl : l.length ≤ 1000) (h : ∀ (i : Nat) (e : RE), l[i]? = some e → Fit e) : Fit (.mk k s l)
theorem Fit.sets {e : RE} (h : Fit e) : i32s e.set ∧ e.set.length ≤ 1000 ∧ e.parts.length ≤ 1000 := by cases h; exact ⟨by assumption, by assumption, by assumption⟩
theorem Fit.part {e p : RE} {i : Nat} (h : Fit e) (hp : e.parts[i]? = some p) : Fit p := by cases h with | mk k s l hs hn hl h => exact h i p hp
mutual
def vis : RE → Nat → Nat → Bool × Nat
  | .mk k s l, n, deep => if 60 < n + 1 ∨ 12 < deep ∨ shp (.mk k s l) = false then (false, n + 1) else visL l (n + 1) (deep + 1)
def visL : List RE → Nat → Nat → Bool × Nat
  | [], n, _ => (true, n)
  | e :: l, n, deep => if (vis e n deep).1 = true then visL l (vis e n deep).2 deep else (false, (vis e n deep).2)
end
theorem vis_eq (e : RE) (n deep : Nat) : vis e n deep = if 60 < n + 1 ∨ 12 < deep ∨ shp e = false then (false, n + 1) else visL e.parts (n + 1) (deep + 1) := by cases e; rw [vis]; rfl
theorem visL_nil (n deep : Nat) : visL [] n deep = (true, n) := by rw [visL]
theorem visL_cons (e : RE) (l : List RE) (n deep : Nat) : visL (e :: l) n deep = if (vis e n deep).1 = true then visL l (vis e n deep).2 deep else (false, (vis e n deep).2) := by rw [visL]
def may (e : RE) : Bool := (vis e 0 1).1
end RE

set_option maxHeartbeats 8000000 in
set_option maxRecDepth 100000 in
theorem reShaped_any (e : RE) (sv lv : Value) (w : World) (h : ReIs w e sv lv) (hf : e.Fit) :
    Calls Tryz.prog 51 #[.agg #[.int .i64 e.kind, sv, lv]] w fun x w' => x = .returned (.bool e.shp) ∧ Below w.heap.size w w' := by
  obtain ⟨⟨o1, q1, rfl⟩, ⟨o2, q2, rfl⟩⟩ := h.form
  have hF := hf.sets
  have hs := h.set
  have hshp : e.shp = if e.kind = 2 then decide (1 ≤ e.set.length) && (decide (e.set.length ≤ 20) && (mayB e.set && decide (e.parts.length = 0)))
    else if 0 < e.set.length then false
    else if e.kind = 0 ∨ e.kind = 1 then decide (e.parts.length = 0)
    else if e.kind = 5 then decide (e.parts.length = 1)
    else if e.kind = 3 ∨ e.kind = 4 then decide (e.parts.length = 2)
    else false := rfl
  obtain ⟨k, hk⟩ : ∃ k, k = e.kind := ⟨_, rfl⟩
  obtain ⟨s, hs0⟩ : ∃ s, s = e.set := ⟨_, rfl⟩
  obtain ⟨m, hm⟩ : ∃ m, m = e.parts.length := ⟨_, rfl⟩
  have hmay := fun w' (hb : Below w.heap.size w w') => mayR_any s (.slice o1 s.length q1) w' (by rw [hs0]; exact hs.below hb) (by rw [hs0]; exact hF.1) (by rw [hs0]; omega)
  rw [← hk, ← hs0, ← hm] at hshp
  have hl1 : s.length ≤ 1000 := by rw [hs0]; omega
  have hl2 : m ≤ 1000 := by omega
  rw [← hk, ← hs0, ← hm]
  obtain ⟨mb, hmb⟩ : ∃ mb, mb = mayB s := ⟨_, rfl⟩
  rw [← hmb] at hshp hmay
  obtain ⟨n, hn⟩ : ∃ n, n = s.length := ⟨_, rfl⟩
  rw [← hn] at hshp hmay hl1 ⊢
  obtain ⟨r, hr⟩ : ∃ r, r = e.shp := ⟨_, rfl⟩
  rw [← hr] at hshp ⊢
  have HM := Lib.hid hmay
  clear hmay hn hmb hr hs hF hf h hk hs0 hm
  by_cases k2 : k = 2
  · rw [if_pos k2] at hshp
    subst k2
    by_cases n1 : 1 ≤ n
    · by_cases n2 : n ≤ 20
      · have HS := Lib.hid hshp
        have d1 : decide ((1 : Int) ≤ (n : Int)) = true := by simp; omega
        have d2 : decide ((n : Int) ≤ 20) = true := by simp; omega
        have g1 : decide (1 ≤ n) = true := by simpa using n1
        have g2 : decide (n ≤ 20) = true := by simpa using n2
        cases hb : mb with
        | true =>
          rw [hb] at HM HS
          have HX := Lib.hid (show r = decide (m = 0) by have := HS.out; rw [g1, g2] at this; simpa using this)
          clear HS hshp
          go_enter Tryz.func51, Tryz.ntmps51
          go_wp2_with fail
          refine (HM.out _ (bel_new (Below.refl _ _) _)).mono ?_
          rintro x w1 ⟨rfl, hb1⟩
          have c0 : w1.cell? ⟨w.heap.size, 2, none⟩ = some (.slice o2 m q2) := cell_later hb1 (by simp [go_sem])
          have HB := Lib.hid (bel_then (bel_new (Below.refl _ _) _) hb1)
          clear hb1
          go_wp2_with fail
          go_ret
          exact ⟨by rw [HX.out]; by_cases h0 : m = 0 <;> simp [h0], HB.out⟩
        | false =>
          rw [hb] at HM HS
          have HX := Lib.hid (show r = false by have := HS.out; simpa using this)
          clear HS hshp
          go_enter Tryz.func51, Tryz.ntmps51
          go_wp2_with fail
          refine (HM.out _ (bel_new (Below.refl _ _) _)).mono ?_
          rintro x w1 ⟨rfl, hb1⟩
          have HB := Lib.hid (bel_then (bel_new (Below.refl _ _) _) hb1)
          clear hb1
          go_wp2_with fail
          go_ret
          exact ⟨by rw [HX.out]; rfl, HB.out⟩
      · have d1 : decide ((1 : Int) ≤ (n : Int)) = true := by simp; omega
        have d2 : decide ((n : Int) ≤ 20) = false := by simp; omega
        have g2 : decide (n ≤ 20) = false := by simpa using n2
        have HX := Lib.hid (show r = false by rw [hshp, g2]; simp)
        clear hshp
        go_enter Tryz.func51, Tryz.ntmps51
        go_wp2_with fail
        go_ret
        exact ⟨by rw [HX.out]; rfl, bel_new (Below.refl _ _) _⟩
    · have d1 : decide ((1 : Int) ≤ (n : Int)) = false := by simp; omega
      have g1 : decide (1 ≤ n) = false := by simpa using n1
      have HX := Lib.hid (show r = false by rw [hshp, g1]; simp)
      clear hshp
      go_enter Tryz.func51, Tryz.ntmps51
      go_wp2_with fail
      go_ret
      exact ⟨by rw [HX.out]; rfl, bel_new (Below.refl _ _) _⟩
  · rw [if_neg k2] at hshp
    have e2 : (k == 2) = false := by simpa using k2
    by_cases n0 : 0 < n
    · have d0 : decide ((0 : Int) < (n : Int)) = true := by simp; omega
      have HX := Lib.hid (show r = false by rw [hshp, if_pos n0])
      clear hshp
      go_enter Tryz.func51, Tryz.ntmps51
      go_wp2_with fail
      go_ret
      exact ⟨by rw [HX.out]; rfl, bel_new (Below.refl _ _) _⟩
    · have d0 : decide ((0 : Int) < (n : Int)) = false := by simp; omega
      rw [if_neg n0] at hshp
      have hz : n = 0 := by omega
      subst hz
      by_cases a0 : k = 0
      · subst a0
        have HX := Lib.hid (show r = decide (m = 0) by rw [hshp]; simp)
        clear hshp
        go_enter Tryz.func51, Tryz.ntmps51
        go_wp2_with fail
        go_ret
        exact ⟨by rw [HX.out]; by_cases h0 : m = 0 <;> simp [h0], bel_new (Below.refl _ _) _⟩
      by_cases a1 : k = 1
      · subst a1
        have HX := Lib.hid (show r = decide (m = 0) by rw [hshp]; simp)
        clear hshp
        go_enter Tryz.func51, Tryz.ntmps51
        go_wp2_with fail
        go_ret
        exact ⟨by rw [HX.out]; by_cases h0 : m = 0 <;> simp [h0], bel_new (Below.refl _ _) _⟩
      by_cases a5 : k = 5
      · subst a5
        have HX := Lib.hid (show r = decide (m = 1) by rw [hshp]; simp)
        clear hshp
        go_enter Tryz.func51, Tryz.ntmps51
        go_wp2_with fail
        go_ret
        exact ⟨by rw [HX.out]; by_cases h0 : m = 1 <;> simp [h0] <;> omega, bel_new (Below.refl _ _) _⟩
      by_cases a3 : k = 3
      · subst a3
        have HX := Lib.hid (show r = decide (m = 2) by rw [hshp]; simp)
        clear hshp
        go_enter Tryz.func51, Tryz.ntmps51
        go_wp2_with fail
        go_ret
        exact ⟨by rw [HX.out]; by_cases h0 : m = 2 <;> simp [h0] <;> omega, bel_new (Below.refl _ _) _⟩
      by_cases a4 : k = 4
      · subst a4
        have HX := Lib.hid (show r = decide (m = 2) by rw [hshp]; simp)
        clear hshp
        go_enter Tryz.func51, Tryz.ntmps51
        go_wp2_with fail
        go_ret
        exact ⟨by rw [HX.out]; by_cases h0 : m = 2 <;> simp [h0] <;> omega, bel_new (Below.refl _ _) _⟩
      have HX := Lib.hid (show r = false by rw [hshp, if_neg (by omega), if_neg a5, if_neg (by omega)])
      have b0 : (k == 0) = false := by simpa using a0
      have b1 : (k == 1) = false := by simpa using a1
      have b3 : (k == 3) = false := by simpa using a3
      have b4 : (k == 4) = false := by simpa using a4
      have b5 : (k == 5) = false := by simpa using a5
      clear hshp
      go_enter Tryz.func51, Tryz.ntmps51
      go_wp2_with fail
      go_ret
      exact ⟨by rw [HX.out]; rfl, bel_new (Below.refl _ _) _⟩
end Go.Proofs.YtmgfpcblbbpahaaGreat

namespace Go.Proofs.YtmgfpcblbbpahaaGreat
open Go.RowKit Ru

set_option maxHeartbeats 4000000 in
set_option maxRecDepth 100000 in
theorem reValid_index (n : Nat) (o : Option Addr) (cap : Nat) (cap0 cap1 : Value) (c0 c1 c2 : Nat → Value) (St : Nat → World → Prop) (Fin : Nat → World → Prop) (w : World) (hn : n ≤ 1000000)
    (hel : ∀ i, i < n → ∃ b off, o = some ⟨b, off, none⟩ ∧ ∀ w', St i w' → w'.cell? ⟨b, off + i * 3, none⟩ = some (c0 i) ∧ w'.cell? ⟨b, off + i * 3 + 1, none⟩ = some (c1 i) ∧ w'.cell? ⟨b, off + i * 3 + 2, none⟩ = some (c2 i))
    (hf : ∀ i w', i < n → St i w' → Calls Tryz.prog 52 #[.agg #[c0 i, c1 i, c2 i], cap0, cap1] w' fun e w'' => (e = .returned (.bool true) ∧ Fin i w'') ∨ (e = .returned (.bool false) ∧ St (i + 1) w''))
    (h0 : St 0 w) :
    Calls Tryz.prog 53 #[.slice o n cap, .func (Fn.func 52) #[] #[cap0, cap1]] w fun e w' => (∃ i : Nat, i < n ∧ e = .returned (.int .i64 i) ∧ Fin i w') ∨ (e = .returned (.int .i64 (-1)) ∧ St n w') := by
  have HEL := Lib.hid hel
  have HF := Lib.hid hf
  clear hel hf
  go_enter Tryz.func53, Tryz.ntmps53
  go_wp2_with fail
  go_loopg [8] n (fun g i wx => ∃ k : Nat, k + g = n ∧ i = .int .i64 k ∧ St k wx)
  case atStart => exact ⟨0, by omega, rfl, h0⟩
  case round =>
    obtain ⟨k, hkg, rfl, hSt⟩ := hrel
    obtain ⟨wo, rfl⟩ : ∃ wo : World, wo = wr := ⟨_, rfl⟩
    cases gk with
    | zero =>
      obtain rfl : k = n := by omega
      have hd : decide ((k : Int) < (k : Int)) = false := by simp
      have HS := Lib.hid hSt
      clear hSt
      go_wp2
      go_ret
      exact .inr ⟨rfl, HS.out⟩
    | succ g =>
      have hk : k < n := by omega
      have hd : decide ((k : Int) < (n : Int)) = true := by simp; omega
      have hk1 : (0 : Int) ≤ (k : Int) := by omega
      have hk2 : (k : Int) < (n : Int) := by omega
      have hk9 : (k : Int) ≤ 1000000 := by omega
      obtain ⟨b, off, rfl, hcell⟩ := HEL.out k hk
      obtain ⟨k0, k1, k2⟩ := hcell wo hSt
      have hc := HF.out k wo hk hSt
      obtain ⟨d0, hd0⟩ : ∃ d, d = c0 k := ⟨_, rfl⟩
      rw [← hd0] at k0 hc
      clear hd0
      obtain ⟨d1, hd1⟩ : ∃ d, d = c1 k := ⟨_, rfl⟩
      rw [← hd1] at k1 hc
      clear hd1
      obtain ⟨d2, hd2⟩ : ∃ d, d = c2 k := ⟨_, rfl⟩
      rw [← hd2] at k2 hc
      clear hd2
      have HC := Lib.hid hc
      clear hcell hSt hc
      go_wp2_with fail
      refine HC.out.mono ?_
      rintro e w2 (⟨rfl, hfin⟩ | ⟨rfl, hst⟩)
      · have HX := Lib.hid hfin
        clear hfin
        go_wp2
        go_ret
        exact .inl ⟨k, hk, rfl, HX.out⟩
      · have HX := Lib.hid hst
        clear hst
        go_wp2
        go_roundg g
        case measure => omega
        case rel => exact ⟨k + 1, by omega, by go_num, HX.out⟩

set_option maxHeartbeats 4000000 in
set_option maxRecDepth 100000 in
theorem reValid_contains (n : Nat) (o : Option Addr) (cap : Nat) (cap0 cap1 : Value) (c0 c1 c2 : Nat → Value) (St : Nat → World → Prop) (Fin : Nat → World → Prop) (w : World) (hn : n ≤ 1000000)
    (hel : ∀ i, i < n → ∃ b off, o = some ⟨b, off, none⟩ ∧ ∀ w', St i w' → w'.cell? ⟨b, off + i * 3, none⟩ = some (c0 i) ∧ w'.cell? ⟨b, off + i * 3 + 1, none⟩ = some (c1 i) ∧ w'.cell? ⟨b, off + i * 3 + 2, none⟩ = some (c2 i))
    (hf : ∀ i w', i < n → St i w' → Calls Tryz.prog 52 #[.agg #[c0 i, c1 i, c2 i], cap0, cap1] w' fun e w'' => (e = .returned (.bool true) ∧ Fin i w'') ∨ (e = .returned (.bool false) ∧ St (i + 1) w''))
    (h0 : St 0 w) :
    Calls Tryz.prog 26 #[.slice o n cap, .func (Fn.func 52) #[] #[cap0, cap1]] w fun e w' => (∃ i : Nat, i < n ∧ e = .returned (.bool true) ∧ Fin i w') ∨ (e = .returned (.bool false) ∧ St n w') := by
  have hc := reValid_index n o cap cap0 cap1 c0 c1 c2 St Fin w hn hel hf h0
  have HC := Lib.hid hc
  clear hc hf hel
  go_enter Tryz.func26, Tryz.ntmps26
  go_wp2_with fail
  refine HC.out.mono ?_
  rintro e w2 (⟨i, hi, rfl, hfin⟩ | ⟨rfl, hst⟩)
  · have HX := Lib.hid hfin
    have hi0 : decide ((0 : Int) ≤ (i : Int)) = true := by simp
    have hi9 : (i : Int) ≤ 1000000 := by omega
    clear hfin
    go_wp2
    go_ret
    exact .inl ⟨i, hi, rfl, HX.out⟩
  · have HX := Lib.hid hst
    clear hst
    go_wp2
    go_ret
    exact .inr ⟨rfl, HX.out⟩

theorem ReIs.all {w : World} {e : RE} {sv lv : Value} (h : ReIs w e sv lv) : ∃ (o : Option Addr) (cap : Nat) (c1 c2 : Nat → Value), lv = .slice o e.parts.length cap ∧
    ∀ (i : Nat) (p : RE), e.parts[i]? = some p → ReIs w p (c1 i) (c2 i) ∧ ∃ b off, o = some ⟨b, off, none⟩ ∧ b < w.heap.size ∧ w.cell? ⟨b, off + i * 3, none⟩ = some (.int .i64 p.kind) ∧ w.cell? ⟨b, off + i * 3 + 1, none⟩ = some (c1 i) ∧ w.cell? ⟨b, off + i * 3 + 2, none⟩ = some (c2 i) := by
  cases h with
  | mk k s l sv lv ps hs hl hn hk ih =>
    have hl2 := hl
    obtain ⟨o, cap, rfl, _⟩ := hl2
    refine ⟨o, cap, fun i => (ps.getD i (0, .nilIface, .nilIface)).2.1, fun i => (ps.getD i (0, .nilIface, .nilIface)).2.2, rfl, fun i p hp => ?_⟩
    have hi : i < l.length := (List.getElem?_eq_some_iff.1 hp).1
    obtain ⟨b, off, cap', e, hb, hc⟩ := hl.cells' (by omega)
    simp only [Value.slice.injEq, true_and] at e
    obtain ⟨rfl, rfl⟩ := e
    obtain ⟨q, hq⟩ : ∃ q, ps[i]? = some q := ⟨ps[i], List.getElem?_eq_getElem (by omega)⟩
    have hd : ps.getD i (0, .nilIface, .nilIface) = q := by rw [List.getD, hq]; rfl
    have g := trip_get ps i q hq
    show ReIs w p (ps.getD i (0, .nilIface, .nilIface)).2.1 (ps.getD i (0, .nilIface, .nilIface)).2.2 ∧ _
    simp only [hd]
    refine ⟨ih i p q hp hq, b, off, rfl, hb, ?_, ?_, ?_⟩
    · rw [hk i p q hp hq]; exact hc _ _ g.1
    · have := hc _ _ g.2.1; simpa [Nat.add_assoc] using this
    · have := hc _ _ g.2.2; simpa [Nat.add_assoc] using this
theorem RE.vis_cnt : ∀ (N : Nat) (e : RE), e.size ≤ N → ∀ n d, (e.vis n d).1 = true → (e.vis n d).2 ≤ 60 := by
  intro N
  induction N with
  | zero => intro e h; have := e.size_pos; omega
  | succ N ih =>
    intro e hs n d h
    rw [RE.vis_eq] at h ⊢
    split at h
    · cases h
    · rename_i hc
      rw [if_neg hc]
      have hn : n + 1 ≤ 60 := by omega
      have hp : ∀ (i : Nat) (p : RE), e.parts[i]? = some p → p.size ≤ N := fun i p hp => by have := RE.size_part hp; omega
      have : ∀ (l : List RE) (m : Nat), (∀ p ∈ l, p.size ≤ N) → m ≤ 60 → (RE.visL l m (d + 1)).1 = true → (RE.visL l m (d + 1)).2 ≤ 60 := by
        intro l
        induction l with
        | nil => intro m _ hm _; rw [RE.visL_nil]; exact hm
        | cons a l ihl =>
          intro m hl hm h
          rw [RE.visL_cons] at h ⊢
          split at h
          · rename_i ha
            rw [if_pos ha]
            exact ihl _ (fun p hp => hl p (by simp [hp])) (ih a (hl a (by simp)) m (d + 1) ha) h
          · cases h
      exact this e.parts (n + 1) (fun p hpm => by obtain ⟨i, hi, rfl⟩ := List.getElem_of_mem hpm; exact hp i _ (List.getElem?_eq_getElem hi)) hn h
abbrev VFn (qn qv : Nat) : Value := .func (Fn.func 50) #[] #[.pointer (some ⟨qn, 0, none⟩), .pointer (some ⟨qv, 0, none⟩)]
structure VAt (w0 w : World) (qn qv n : Nat) : Prop where
  bel : Below w0.heap.size w0 w
  cn : w.heap[qn]? = some (.cells #[.int .i64 n] 3 (0, 0))
  cv : w.heap[qv]? = some (.cells #[VFn qn qv] 84 (0, 0))
  ln : w0.heap.size ≤ qn
  lv : w0.heap.size ≤ qv
  ne : qn ≠ qv
theorem VAt.go {w0 w w' : World} {qn qv n m : Nat} (h : VAt w0 w qn qv n) (hc : Ch w w' qn) (hn : w'.heap[qn]? = some (.cells #[.int .i64 m] 3 (0, 0))) : VAt w0 w' qn qv m :=
  ⟨hc.after h.bel h.ln, hn, hc.get h.cv (fun e => h.ne e.symm), h.ln, h.lv, h.ne⟩
theorem VAt.moved {w0 w w' : World} {qn qv n : Nat} (h : VAt w0 w qn qv n) (hb : Below w.heap.size w w') : VAt w0 w' qn qv n := h.go (Ch.of hb) (bel_get hb h.cn)
def VPost (w0 : World) (e : RE) (qn qv n deep : Nat) (w : World) (x : Ending) (w' : World) : Prop :=
  x = .returned (.bool (e.vis n deep).1) ∧ VAt w0 w' qn qv (e.vis n deep).2 ∧ Ch w w' qn
def VIh (w0 : World) (N qn qv : Nat) : Prop := ∀ (e : RE) (sv lv : Value) (n deep : Nat) (w : World), e.size ≤ N → e.Fit → ReIs w0 e sv lv → VAt w0 w qn qv n → n ≤ 1000 → deep ≤ 1000 →
  Calls Tryz.prog 50 #[.agg #[.int .i64 e.kind, sv, lv], .int .i64 deep, .pointer (some ⟨qn, 0, none⟩), .pointer (some ⟨qv, 0, none⟩)] w (VPost w0 e qn qv n deep w)
set_option maxHeartbeats 4000000 in
set_option maxRecDepth 100000 in
theorem valid_part (w0 : World) (N qn qv qd : Nat) (ih : VIh w0 N qn qv) (e : RE) (sv lv : Value) (n deep : Nat) (w : World) (hs : e.size ≤ N) (hf : e.Fit) (hr : ReIs w0 e sv lv) (hv : VAt w0 w qn qv n) (hn : n ≤ 1000) (hd : deep ≤ 999)
    (hq : w.heap[qd]? = some (.cells #[.int .i64 deep] 3 (0, 0))) :
    Calls Tryz.prog 52 #[.agg #[.int .i64 e.kind, sv, lv], .pointer (some ⟨qv, 0, none⟩), .pointer (some ⟨qd, 0, none⟩)] w fun x w' =>
      x = .returned (.bool (!(e.vis n (deep + 1)).1)) ∧ VAt w0 w' qn qv (e.vis n (deep + 1)).2 ∧ Ch w w' qn := by
  obtain ⟨⟨o1, q1, rfl⟩, ⟨o2, q2, rfl⟩⟩ := hr.form
  have hc := fun w' (hv' : VAt w0 w' qn qv n) => ih e _ _ n (deep + 1) w' hs hf hr hv' hn (by omega)
  obtain ⟨rb, hrb⟩ : ∃ rb, rb = (e.vis n (deep + 1)).1 := ⟨_, rfl⟩
  unfold VPost at hc
  rw [← hrb] at hc ⊢
  have hw1 : (deep : Int) + 1 = ((deep + 1 : Nat) : Int) := by omega
  have hdz : (deep : Int) ≤ 999 := by omega
  obtain ⟨c0, f0⟩ := cell1_of hv.cv
  unfold VFn at c0
  have hlv := hp_lt hv.cv
  obtain ⟨c1, f1⟩ := cell1_of hq
  have hld := hp_lt hq
  have HC := Lib.hid hc
  have HV := Lib.hid hv
  have HW := Lib.hid hw1
  clear hc hv hq hr ih hrb hw1
  go_enter Tryz.func52, Tryz.ntmps52
  go_wp2_with fail
  rw [show (Value.int .i64 ((deep : Int) + 1)) = .int .i64 ((deep + 1 : Nat) : Int) by rw [HW.out]]
  refine (HC.out _ (HV.out.moved (bel_new (Below.refl _ _) _))).mono ?_
  rintro x w2 ⟨rfl, hv2, hc2⟩
  have HX := Lib.hid (And.intro hv2 ((Ch.new w _ qn).trans hc2))
  clear hv2 hc2
  go_wp2
  go_ret
  exact ⟨rfl, HX.out.1, HX.out.2⟩
set_option maxHeartbeats 8000000 in
set_option maxRecDepth 100000 in
theorem valid_any (w0 : World) (qn qv : Nat) : ∀ N, VIh w0 N qn qv := by
  intro N
  induction N with
  | zero => intro e sv lv n deep w hs; have := e.size_pos; omega
  | succ N ih =>
    intro e sv lv n deep w hs hf hr hv hn hd
    obtain ⟨⟨o1, q1, rfl⟩, -⟩ := hr.form
    obtain ⟨o2, q2, c1, c2, rfl, hall⟩ := hr.all
    have hm1 := hf.sets
    have hve := e.vis_eq n deep
    have hqs := hp_lt hv.cn
    have hqs2 := hp_lt hv.cv
    obtain ⟨cn0, fn0⟩ := cell1_of hv.cn
    obtain ⟨W0', hW0⟩ : ∃ W0', W0' = w.setCell ⟨qn, 0, none⟩ (.int .i64 ((n + 1 : Nat) : Int)) := ⟨_, rfl⟩
    have hsz0 : W0'.heap.size = w.heap.size := by rw [hW0]; simp [World.setCell]
    have hc0 : Ch w W0' qn := by rw [hW0]; exact Ch.set _ _ _ _
    have hv0 : VAt w0 W0' qn qv (n + 1) := hv.go hc0 (by rw [hW0]; exact cell1_set hv.cn _)
    obtain ⟨W2, hW2⟩ : ∃ W2, W2 = (W0'.alloc (.cells #[.int .i64 e.kind, .slice o1 e.set.length q1, .slice o2 e.parts.length q2] 41)).alloc (.cells #[.int .i64 deep] 3) := ⟨_, rfl⟩
    have hb2 : Below W0'.heap.size W0' W2 := by rw [hW2]; exact bel_new (bel_new (Below.refl _ _) _) _
    have hE2 : W2.heap[w.heap.size]? = some (.cells #[.int .i64 e.kind, .slice o1 e.set.length q1, .slice o2 e.parts.length q2] 41 (0, 0)) := by
      rw [hW2, Below.heap_alloc _ _ _ (by simp [hsz0]), ← hsz0]; exact heap_alloc_new W0' _
    have hD2 : W2.heap[w.heap.size + 1]? = some (.cells #[.int .i64 deep] 3 (0, 0)) := by
      rw [hW2]
      have := heap_alloc_new (W0'.alloc (.cells #[.int .i64 e.kind, .slice o1 e.set.length q1, .slice o2 e.parts.length q2] 41)) (.cells #[.int .i64 deep] 3)
      simpa [hsz0] using this
    have hv2 : VAt w0 W2 qn qv (n + 1) := hv0.moved hb2
    have hcw : Ch w W2 qn := hc0.bel' hb2
    have hstep : ((w.setCell ⟨qn, 0, none⟩ (.int .i64 ((n : Int) + 1))).alloc (.cells #[.int .i64 e.kind, .slice o1 e.set.length q1, .slice o2 e.parts.length q2] 41)).alloc (.cells #[.int .i64 deep] 3) = W2 := by rw [hW2, hW0]; rfl
    have hsz2 : w.heap.size + 1 < W2.heap.size := hp_lt hD2
    have hnz : (n : Int) ≤ 1000 := by omega
    have hdz : (deep : Int) ≤ 1000 := by omega
    obtain ⟨d0, g0⟩ := cell1_of hv2.cn
    obtain ⟨d1, g1⟩ := cell1_of hD2
    have H2 := Lib.hid (And.intro hv2 (And.intro hcw (And.intro hE2 hD2)))
    have HALL := Lib.hid hall
    have HR := Lib.hid hr
    have hshape := fun w' hb => reShaped_any e _ _ w' (hr.moved hb) hf
    have HSH := Lib.hid hshape
    have HST := Lib.hid hstep
    clear hv hc0 hv0 hv2 hcw hE2 hD2 hb2 hW0 hW2 hsz0 hall hr hshape hstep
    by_cases hc60 : 60 < n + 1
    · have hres := Lib.hid (show e.vis n deep = (false, n + 1) by rw [hve, if_pos (.inl hc60)])
      have t60 : decide ((60 : Int) < (n : Int) + 1) = true := by simp; omega
      clear hve
      go_enter Tryz.func50, Tryz.ntmps50
      go_wp2_with fail
      go_ret
      unfold VPost
      rw [hres.out]
      refine ⟨rfl, ?_, ?_⟩
      · rw [HST.out]; exact H2.out.1
      · rw [HST.out]; exact H2.out.2.1
    have t60 : decide ((60 : Int) < (n : Int) + 1) = false := by simp; omega
    by_cases hc12 : 12 < deep
    · have hres := Lib.hid (show e.vis n deep = (false, n + 1) by rw [hve, if_pos (.inr (.inl hc12))])
      have t12 : decide ((12 : Int) < (deep : Int)) = true := by simp; omega
      clear hve
      go_enter Tryz.func50, Tryz.ntmps50
      go_wp2_with fail
      go_ret
      unfold VPost
      rw [hres.out, HST.out]
      exact ⟨rfl, H2.out.1, H2.out.2.1⟩
    have t12 : decide ((12 : Int) < (deep : Int)) = false := by simp; omega
    have hE2 := H2.out.2.2.1
    have hcell : ∀ w', Below W2.heap.size W2 w' → w'.cell? ⟨w.heap.size, 0, none⟩ = some (.int .i64 e.kind) ∧ w'.cell? ⟨w.heap.size, 1, none⟩ = some (.slice o1 e.set.length q1) ∧ w'.cell? ⟨w.heap.size, 2, none⟩ = some (.slice o2 e.parts.length q2) := fun w' hb => by
      have := bel_get hb hE2
      simp [World.cell?, this]
    obtain ⟨x0, x1, x2⟩ := hcell W2 (Below.refl _ _)
    have HCELL := Lib.hid hcell
    clear hcell hE2
    cases hsh : e.shp with
    | false =>
      have hres := Lib.hid (show e.vis n deep = (false, n + 1) by rw [hve, if_pos (.inr (.inr hsh))])
      have hs9 := Lib.hid (show e.shp = false from hsh)
      clear hve hsh
      go_enter Tryz.func50, Tryz.ntmps50
      go_wp2_with fail
      rw [HST.out]
      refine (HSH.out W2 (by first | exact H2.out.1.bel | exact H2.out.1.bel)).mono ?_
      rintro x w3 ⟨rfl, hb3⟩
      rw [hs9.out]
      have H3 := Lib.hid (And.intro (H2.out.1.moved hb3) (H2.out.2.1.bel' hb3))
      clear hb3
      go_wp2_with fail
      go_ret
      unfold VPost
      rw [hres.out]
      exact ⟨rfl, H3.out.1, H3.out.2⟩
    | true =>
      have hves := Lib.hid (show e.vis n deep = RE.visL e.parts (n + 1) (deep + 1) by rw [hve, if_neg (by rintro (h | h | h) <;> first | omega | (rw [hsh] at h; cases h))])
      have hs9 := Lib.hid (show e.shp = true from hsh)
      have hn60 : n + 1 ≤ 60 := by omega
      have hd12 : deep ≤ 12 := by omega
      clear hve hsh
      go_enter Tryz.func50, Tryz.ntmps50
      go_wp2_with fail
      rw [HST.out]
      refine (HSH.out W2 (by first | exact H2.out.1.bel | exact H2.out.1.bel)).mono ?_
      rintro x w3 ⟨rfl, hb3⟩
      rw [hs9.out]
      have hx := HCELL.out w3 hb3
      have hx2 := hx.2.2
      have hD3 := bel_get hb3 H2.out.2.2.2
      have hv3 := H2.out.1.moved hb3
      have hc3 := H2.out.2.1.bel' hb3
      have hz3 : w.heap.size + 1 < w3.heap.size := hp_lt hD3
      have H3 := Lib.hid (And.intro hv3 (And.intro hc3 hD3))
      have hmf : ∀ (fn : Fn) (first cap : Array Value) (w : World), (Instr.makeFunc fn first cap).run Tryz.prog w = .ok (.func fn first cap) w := fun _ _ _ _ => rfl
      clear hx hb3 hD3 hv3 hc3 x0 x1 x2 d0 d1 g0 g1
      go_wp2_with fail
      refine (reValid_contains e.parts.length o2 q2 (.pointer (some ⟨qv, 0, none⟩)) (.pointer (some ⟨w.heap.size + 1, 0, none⟩)) (fun i => .int .i64 (e.parts.getD i e).kind) c1 c2
        (fun i w' => ∃ m, m ≤ 60 ∧ VAt w0 w' qn qv m ∧ Ch w w' qn ∧ w'.heap[w.heap.size + 1]? = some (.cells #[.int .i64 deep] 3 (0, 0)) ∧ RE.visL e.parts (n + 1) (deep + 1) = RE.visL (e.parts.drop i) m (deep + 1))
        (fun i w' => ∃ m, VAt w0 w' qn qv m ∧ Ch w w' qn ∧ RE.visL e.parts (n + 1) (deep + 1) = (false, m))
        w3 (by omega) ?hel ?hf ⟨n + 1, hn60, H3.out.1, H3.out.2.1, H3.out.2.2, by rw [List.drop_zero]⟩).mono ?_
      case hel =>
        intro i hi
        obtain ⟨p, hp⟩ : ∃ p, e.parts[i]? = some p := ⟨e.parts[i], List.getElem?_eq_getElem hi⟩
        obtain ⟨hrp, b, off, rfl, hbl, k0, k1, k2⟩ := HALL.out i p hp
        have hg : e.parts.getD i e = p := by rw [List.getD, hp]; rfl
        refine ⟨b, off, rfl, fun w' hSt => ?_⟩
        obtain ⟨m, _, hvm, _⟩ := hSt
        rw [hg]
        exact ⟨(hvm.bel.cell hbl).trans k0, (hvm.bel.cell hbl).trans k1, (hvm.bel.cell hbl).trans k2⟩
      case hf =>
        intro i w' hi hSt
        obtain ⟨m, hm60, hvm, hcm, hdm, hvis⟩ := hSt
        obtain ⟨p, hp⟩ : ∃ p, e.parts[i]? = some p := ⟨e.parts[i], List.getElem?_eq_getElem hi⟩
        have hg : e.parts.getD i e = p := by rw [List.getD, hp]; rfl
        have hpe : e.parts[i] = p := by rw [List.getElem?_eq_getElem hi] at hp; exact Option.some.inj hp
        have hsz := RE.size_part hp
        rw [hg]
        refine (valid_part w0 N qn qv (w.heap.size + 1) ih p (c1 i) (c2 i) m deep w' (by omega) (hf.part hp) (HALL.out i p hp).1 hvm (by omega) (by omega) hdm).mono ?_
        rintro x w4 ⟨rfl, hv4, hc4⟩
        have hcons : RE.visL e.parts (n + 1) (deep + 1) = if (p.vis m (deep + 1)).1 = true then RE.visL (e.parts.drop (i + 1)) (p.vis m (deep + 1)).2 (deep + 1) else (false, (p.vis m (deep + 1)).2) := by
          rw [hvis, List.drop_eq_getElem_cons hi, RE.visL_cons, hpe]
        cases hb : (p.vis m (deep + 1)).1 with
        | true =>
          rw [hb, if_pos rfl] at hcons
          exact .inr ⟨rfl, _, RE.vis_cnt _ p (Nat.le_refl _) m (deep + 1) hb, hv4, hcm.trans hc4, hc4.get hdm (by have := hp_lt hvm.cn; omega), hcons⟩
        | false =>
          rw [hb, if_neg (by decide)] at hcons
          exact .inl ⟨rfl, _, hv4, hcm.trans hc4, hcons⟩
      rintro x w5 (⟨i, hi, rfl, m, hv5, hc5, hvis⟩ | ⟨rfl, m, hm60, hv5, hc5, hd5, hvis⟩)
      · have H5 := Lib.hid (And.intro hv5 (And.intro hc5 hvis))
        clear hv5 hc5 hvis
        go_wp2_with fail
        go_ret
        unfold VPost
        rw [hves.out, H5.out.2.2]
        exact ⟨rfl, H5.out.1, H5.out.2.1⟩
      · rw [List.drop_length, RE.visL_nil] at hvis
        have H5 := Lib.hid (And.intro hv5 (And.intro hc5 hvis))
        clear hv5 hc5 hvis hd5
        go_wp2_with fail
        go_ret
        unfold VPost
        rw [hves.out, H5.out.2.2]
        exact ⟨rfl, H5.out.1, H5.out.2.1⟩
set_option maxHeartbeats 4000000 in
set_option maxRecDepth 100000 in
theorem reMay_any (e : RE) (sv lv : Value) (w : World) (h : ReIs w e sv lv) (hf : e.Fit) :
    Calls Tryz.prog 25 #[.agg #[.int .i64 e.kind, sv, lv]] w fun x w' => x = .returned (.bool e.may) ∧ Below w.heap.size w w' := by
  obtain ⟨⟨o1, q1, rfl⟩, ⟨o2, q2, rfl⟩⟩ := h.form
  have hva := fun w' (hv : VAt w w' (w.heap.size + 1) (w.heap.size + 1 + 1) 0) => valid_any w (w.heap.size + 1) (w.heap.size + 1 + 1) e.size e _ _ 0 1 w' (Nat.le_refl _) hf h hv (by omega) (by omega)
  have HV := Lib.hid hva
  have hmf : ∀ (fn : Fn) (first cap : Array Value) (w : World), (Instr.makeFunc fn first cap).run Tryz.prog w = .ok (.func fn first cap) w := fun _ _ _ _ => rfl
  clear hva h hf
  go_enter Tryz.func25, Tryz.ntmps25
  go_wp2_with fail
  obtain ⟨W, hW⟩ : ∃ W, W = ((w.alloc (.cells #[.int .i64 e.kind, .slice o1 e.set.length q1, .slice o2 e.parts.length q2] 41)).alloc (.cells #[.int .i64 0] 3)).alloc (.cells #[VFn (w.heap.size + 1) (w.heap.size + 1 + 1)] 84) := ⟨_, rfl⟩
  have hb : Below w.heap.size w W := by rw [hW]; exact bel_new (bel_new (bel_new (Below.refl _ _) _) _) _
  have hv : VAt w W (w.heap.size + 1) (w.heap.size + 1 + 1) 0 := by
    refine ⟨hb, ?_, ?_, by omega, by omega, by omega⟩
    · rw [hW, Below.heap_alloc _ _ _ (by simp)]
      have := heap_alloc_new (w.alloc (.cells #[.int .i64 e.kind, .slice o1 e.set.length q1, .slice o2 e.parts.length q2] 41)) (.cells #[.int .i64 0] 3)
      simpa using this
    · rw [hW]
      have := heap_alloc_new ((w.alloc (.cells #[.int .i64 e.kind, .slice o1 e.set.length q1, .slice o2 e.parts.length q2] 41)).alloc (.cells #[.int .i64 0] 3)) (.cells #[VFn (w.heap.size + 1) (w.heap.size + 1 + 1)] 84)
      simpa using this
  refine (HV.out _ (by unfold VFn at hW; first | exact hW ▸ hv | (rw [← hW]; exact hv))).mono ?_
  rintro x w2 ⟨rfl, hv2, hc2⟩
  have H2 := Lib.hid hv2.bel
  clear hv2 hc2
  go_wp2_with fail
  go_ret
  exact ⟨rfl, H2.out⟩
end Go.Proofs.YtmgfpcblbbpahaaGreat

namespace Go.Proofs.YtmgfpcblbbpahaaGreat
open Go.RowKit Ru

namespace RE
mutual
def emp : RE → Bool
  | .mk k s l => if k = 1 ∨ k = 5 then true else if k = 4 then anyE l else if k = 3 then twoE l else false
def anyE : List RE → Bool
  | [] => false
  | e :: l => emp e || anyE l
def twoE : List RE → Bool
  | [] => false
  | e :: l => emp e && (match l with | [] => false | f :: _ => emp f)
end
inductive Wf : RE → Prop
  | mk (k : Int) (s : List (Int × Int)) (l : List RE) (h3 : k = 3 → 2 ≤ l.length) (h : ∀ (i : Nat) (e : RE), l[i]? = some e → Wf e) : Wf (.mk k s l)
theorem Wf.part {e p : RE} {i : Nat} (h : Wf e) (hp : e.parts[i]? = some p) : Wf p := by cases h with | mk k s l h3 h => exact h i p hp
end RE
def NodeAt (w : World) (q : Nat) (e : RE) : Prop := ∃ sv pv, w.heap[q]? = some (.cells #[.int .i64 e.kind, sv, pv, .bool e.emp, .bool false] 76 (0, 0))
theorem NodeAt.emp {w : World} {q : Nat} {e : RE} (h : NodeAt w q e) : w.cell? ⟨q, 3, none⟩ = some (.bool e.emp) := by obtain ⟨sv, pv, h⟩ := h; simp [World.cell?, h]
def ptrs (qs : List Nat) : List Value := qs.map fun q => .pointer (some ⟨q, 0, none⟩)
end Go.Proofs.YtmgfpcblbbpahaaGreat
