/- word: the reader of a class: peek, fail. -/
import Derived.Test.YtkngppkchaadhaaWordAll2
import Derived.Deep.QuietTactic
import Derived.BigQuiet
set_option linter.unusedVariables false
set_option linter.unusedSimpArgs false
namespace Go.Proofs.Ytkngppkchaadhaa
open Go.RowKit De Wd

namespace Wd
abbrev Its := List (Nat × It)
/-- the next rune -/
def pk (L : Its) (k : Nat) : Int := match L[k]? with | some p => if p.2.bad = true then -1 else p.2.r | none => -1
/-- where the next rune stands, or the end -/
def plc (L : Its) (n k : Nat) : Nat := match L[k]? with | some p => p.1 | none => n
theorem pk_end {L : Its} {k : Nat} (h : ¬ k < L.length) : pk L k = -1 := by unfold pk; rw [List.getElem?_eq_none (by omega)]
end Wd
/-- block p is a reader: at the item k of L, the text has n bytes -/
structure CI (w : World) (p : Nat) (L : Its) (k n : Nat) (v : Value) : Prop where
  hh : w.heap[p]? = some (.cells #[v, .int .i64 k, .int .i64 n] 61 (0, 0))
  row : Row w v L.length (itsc L)
  far : ∀ b off cap, v = .slice (some ⟨b, off, none⟩) L.length cap → b ≠ p
  le : k ≤ L.length
  small : L.length ≤ 1000000
/-- the world is as it was, but for what is new, and block p -/
structure Ch (w w' : World) (p : Nat) : Prop where
  os : w'.os = w.os
  tape : w'.tape = w.tape
  output : w'.output = w.output
  size : w.heap.size ≤ w'.heap.size
  block : ∀ k, k < w.heap.size → k ≠ p → w'.heap[k]? = w.heap[k]?
theorem Ch.refl (w : World) (p : Nat) : Ch w w p := ⟨rfl, rfl, rfl, Nat.le_refl _, fun _ _ _ => rfl⟩
theorem Ch.trans {a b c : World} {p : Nat} (h : Ch a b p) (k : Ch b c p) : Ch a c p :=
  ⟨k.os.trans h.os, k.tape.trans h.tape, k.output.trans h.output, Nat.le_trans h.size k.size, fun j hj hp => by have := h.size; rw [k.block j (by omega) hp, h.block j hj hp]⟩
theorem Ch.of {w w' : World} {p : Nat} (h : Below w.heap.size w w') : Ch w w' p := ⟨h.os, h.tape, h.output, h.size, fun k hk _ => h.block k hk⟩
theorem Ch.drewN {w : World} (p n : Nat) : Ch w (w.drewN n) p := ⟨rfl, rfl, rfl, Nat.le_refl _, fun _ _ _ => rfl⟩
theorem Ch.set (w : World) (p i : Nat) (x : Value) : Ch w (w.setCell ⟨p, i, none⟩ x) p :=
  ⟨rfl, rfl, rfl, by simp [World.setCell], fun k _ hp => Below.heap_setCell _ _ _ _ hp⟩
theorem CI.moved {w w' : World} {p k n : Nat} {L : Its} {v : Value} (h : CI w p L k n v) (hb : Below w.heap.size w w') : CI w' p L k n v :=
  ⟨by rw [hb.block p (by rcases Nat.lt_or_ge p w.heap.size with h1 | h1; exact h1; have := h.hh; rw [Array.getElem?_eq_none h1] at this; cases this)]; exact h.hh, h.row.below hb, h.far, h.le, h.small⟩
theorem CI.drewN {w : World} {p k n : Nat} {L : Its} {v : Value} (h : CI w p L k n v) (q : Nat) : CI (w.drewN q) p L k n v :=
  h.moved ⟨rfl, rfl, rfl, Nat.le_refl _, fun _ _ => rfl⟩
theorem CI.at {w : World} {p k n k' : Nat} {L : Its} {v : Value} (h : CI w p L k n v) (hk : k' ≤ L.length) : CI (w.setCell ⟨p, 1, none⟩ (.int .i64 k')) p L k' n v := by
  refine ⟨?_, ?_, h.far, hk, h.small⟩
  · have := h.hh; simp [World.setCell, Array.getElem?_modify, this]
  · obtain ⟨o, cap, rfl, h1, h2, h3⟩ := h.row
    refine ⟨o, cap, rfl, h1, h2, ?_⟩
    rcases h3 with h3 | ⟨b, off, rfl, hb, hc⟩
    · exact .inl h3
    · refine .inr ⟨b, off, rfl, by simpa [World.setCell] using hb, fun j u hu => ?_⟩
      have hne := h.far b off cap rfl
      rw [← hc j u hu]
      unfold World.cell?
      rw [Below.heap_setCell _ _ _ _ hne]

theorem drewN_two (w : World) (a b : Nat) : (w.drewN a).drewN b = w.drewN (a + b) := by unfold World.drewN; simp [Nat.add_assoc]
theorem ret_i32 {a b : Int} (h : a = b) : Ending.returned (.int .i32 a) = .returned (.int .i32 b) := by rw [h]
set_option maxHeartbeats 2000000 in
set_option maxRecDepth 100000 in
theorem peek_any (p k n : Nat) (L : Its) (v : Value) (w : World) (h : CI w p L k n v) :
    Calls Try.prog 22 #[.pointer (some ⟨p, 0, none⟩)] w fun e w' => e = .returned (.int .i32 (pk L k)) ∧ ∃ q, w' = w.drewN q := by
  have hle := h.le
  obtain ⟨⟨c0, c1, c2⟩, f0, f1, f2⟩ := cells3_of h.hh
  by_cases hk : k < L.length
  · obtain ⟨q, hq⟩ : ∃ q, L[k]? = some q := ⟨L[k], List.getElem?_eq_getElem hk⟩
    obtain ⟨b1, f1', k1, rfl, hb1, a0, a1, a2, a3, a4⟩ := h.row.item hq
    have e1 : ((k : Int) == (L.length : Int)) = false := by simp; omega
    have e2 : (k == L.length) = false := by simp; omega
    have hii : (0 : Int) ≤ (k : Int) := by omega
    have hij : (k : Int) < (L.length : Int) := by omega
    cases hbad : q.2.bad with
    | true =>
      have hpk : pk L k = -1 := by unfold pk; rw [hq]; simp [hbad]
      rw [hbad] at a3
      have HP := Lib.hid hpk
      clear h hq hbad hpk
      go_enter Try.func22, Try.ntmps22
      go_wp2
      go_quiet (fail)
      go_wp2
      go_ret
      exact ⟨ret_i32 HP.out.symm, _, by first | rfl | exact drewN_two _ _ _⟩
    | false =>
      have hpk : pk L k = q.2.r := by unfold pk; rw [hq]; simp [hbad]
      rw [hbad] at a3
      have HP := Lib.hid hpk
      clear h hq hbad hpk
      go_enter Try.func22, Try.ntmps22
      go_wp2
      go_quiet (fail)
      go_wp2
      go_quiet (fail)
      go_wp2
      go_ret
      exact ⟨ret_i32 HP.out.symm, _, by first | rfl | exact drewN_two _ _ _⟩
  · have hkn : k = L.length := by omega
    have hpk := pk_end hk
    obtain ⟨o, cap, rfl, _⟩ := h.row
    have HP := Lib.hid hpk
    have e1 : ((k : Int) == (L.length : Int)) = true := by simp; omega
    have e2 : (k == L.length) = true := by simp; omega
    clear h hk hkn hpk
    go_enter Try.func22, Try.ntmps22
    go_wp2
    go_quiet (fail)
    go_wp2
    go_ret
    exact ⟨ret_i32 HP.out.symm, _, by first | rfl | exact drewN_two _ _ _⟩
set_option maxHeartbeats 2000000 in
set_option maxRecDepth 100000 in
theorem cfail_any (p k n : Nat) (L : Its) (v : Value) (w : World) (h : CI w p L k n v) :
    Calls Try.prog 26 #[.pointer (some ⟨p, 0, none⟩)] w fun e w' => e = flt 3 (plc L n k) ∧ ∃ q, w' = w.drewN q := by
  have hle := h.le
  obtain ⟨⟨c0, c1, c2⟩, f0, f1, f2⟩ := cells3_of h.hh
  by_cases hk : k < L.length
  · obtain ⟨q, hq⟩ : ∃ q, L[k]? = some q := ⟨L[k], List.getElem?_eq_getElem hk⟩
    obtain ⟨b1, f1', k1, rfl, hb1, a0, a1, a2, a3, a4⟩ := h.row.item hq
    have e1 : decide ((k : Int) < (L.length : Int)) = true := by simp; omega
    have e2 : decide (k < L.length) = true := by simp; omega
    have hii : (0 : Int) ≤ (k : Int) := by omega
    have hij : (k : Int) < (L.length : Int) := by omega
    have hpk : plc L n k = q.1 := by unfold plc; rw [hq]
    have HP := Lib.hid hpk
    clear h hq hpk
    go_enter Try.func26, Try.ntmps26
    go_wp2
    go_quiet (fail)
    go_wp2
    go_quiet (fail)
    go_wp2
    exact ⟨rfl, by rw [HP.out], _, by first | rfl | exact drewN_two _ _ _⟩
  · obtain ⟨o, cap, rfl, _⟩ := h.row
    have hpk : plc L n k = n := by unfold plc; rw [List.getElem?_eq_none (by omega)]
    have HP := Lib.hid hpk
    have e1 : decide ((k : Int) < (L.length : Int)) = false := by simp; omega
    have e2 : decide (k < L.length) = false := by simp; omega
    clear h hk hpk
    go_enter Try.func26, Try.ntmps26
    go_wp2
    go_quiet (fail)
    go_wp2
    exact ⟨rfl, by rw [HP.out], _, by first | rfl | exact drewN_two _ _ _⟩
end Go.Proofs.Ytkngppkchaadhaa
