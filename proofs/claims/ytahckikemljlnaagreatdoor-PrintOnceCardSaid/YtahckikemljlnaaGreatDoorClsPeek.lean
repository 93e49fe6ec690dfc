/- word: the reader of a class: peek, fail. -/
import Derived.Lib.ConvBytes
import Derived.ArgAppend
import Derived.Deep.Upon
import Derived.Deep.AppendSrc
import Derived.Test.YtahckikemljlnaaGreatDoorWordOne
import Derived.Outline
import Derived.RegionTactic
import Derived.ChangeAlike
import Derived.BigRegion
import Derived.Test.YtahckikemljlnaaGreatDoorCh
import Derived.Deep.QuietTactic
import Derived.BigQuiet
set_option linter.unusedVariables false
set_option linter.unusedSimpArgs false
namespace Go.Proofs.YtahckikemljlnaaGreatDoor
open Go.RowKit

theorem convW_below (w : World) (e : TypeId) (s : ByteArray) : Below w.heap.size w (Lib.bytesWorld w e s) := by
  refine ⟨?_, ?_, ?_, by rw [Lib.bytesWorld_size]; omega, fun k hk => Lib.bytesWorld_at_old w e s k hk⟩ <;> (unfold Lib.bytesWorld World.freeze; rw [if_neg (by decide)]; rfl)
theorem convW_cells (w : World) (e : TypeId) (s : ByteArray) : ∀ (j : Nat) (u : Value), ((sb s).map (Value.int .u8))[j]? = some u → (Lib.bytesWorld w e s).cell? ⟨w.heap.size, 0 + j, none⟩ = some u := by
  intro j u hu
  have hj : j < s.size := by
    have := (List.getElem?_eq_some_iff.1 hu).1
    simpa [sb] using this
  rw [Nat.zero_add, Lib.bytesWorld_cell w e s j hj, ← hu]
  have hj' : j < s.data.size := hj
  simp [sb, hj', List.getD, Array.getElem?_eq_getElem hj']
end Go.Proofs.YtahckikemljlnaaGreatDoor

namespace Go.Proofs.YtahckikemljlnaaGreatDoor
open Go.RowKit De

theorem itsc_get (L : List (Nat × It)) : ∀ (k i : Nat) (p : Nat × It), L[k]? = some p → i < 5 → (itsc L)[k * 5 + i]? = (itc p.1 p.2)[i]? := by
  induction L with
  | nil => intro k i p h; simp at h
  | cons q L ih =>
    intro k i p h hi
    have e : itsc (q :: L) = itc q.1 q.2 ++ itsc L := by simp [itsc]
    have hl : (itc (q.1 : Nat) q.2).length = 5 := by simp [itc]
    rw [e]
    cases k with
    | zero =>
      simp at h
      subst h
      rw [List.getElem?_append_left (by omega)]
      simp
    | succ k =>
      rw [List.getElem?_append_right (by omega)]
      have := ih k i p (by simpa using h) hi
      rw [← this]
      congr 1; omega
theorem Row.item {w : World} {v : Value} {L : List (Nat × It)} (h : Row w v L.length (itsc L)) {k : Nat} {p : Nat × It} (hk : L[k]? = some p) :
    ∃ b off cap, v = .slice (some ⟨b, off, none⟩) L.length cap ∧ b < w.heap.size ∧
      w.cell? ⟨b, off + k * 5, none⟩ = some (.int .i32 p.2.r) ∧ w.cell? ⟨b, off + k * 5 + 1, none⟩ = some (.int .i64 p.1) ∧ w.cell? ⟨b, off + k * 5 + 2, none⟩ = some (.int .i64 ((p.1 : Int) + p.2.n)) ∧
      w.cell? ⟨b, off + k * 5 + 3, none⟩ = some (.bool p.2.bad) ∧ w.cell? ⟨b, off + k * 5 + 4, none⟩ = some (.bool p.2.more) := by
  have hlt : k < L.length := (List.getElem?_eq_some_iff.1 hk).1
  obtain ⟨o, cap, rfl, h1, h2, h3⟩ := h
  rcases h3 with ⟨h0, _⟩ | ⟨b, off, rfl, hb, hc⟩
  · omega
  have g := fun i hi => itsc_get L k i p hk hi
  refine ⟨b, off, cap, rfl, hb, ?_, ?_, ?_, ?_, ?_⟩
  · have := hc (k * 5 + 0) (.int .i32 p.2.r) (by rw [g 0 (by omega)]; rfl); simpa [Nat.add_assoc] using this
  · have := hc (k * 5 + 1) (.int .i64 p.1) (by rw [g 1 (by omega)]; rfl); simpa [Nat.add_assoc] using this
  · have := hc (k * 5 + 2) (.int .i64 ((p.1 : Int) + p.2.n)) (by rw [g 2 (by omega)]; rfl); simpa [Nat.add_assoc] using this
  · have := hc (k * 5 + 3) (.bool p.2.bad) (by rw [g 3 (by omega)]; rfl); simpa [Nat.add_assoc] using this
  · have := hc (k * 5 + 4) (.bool p.2.more) (by rw [g 4 (by omega)]; rfl); simpa [Nat.add_assoc] using this

end Go.Proofs.YtahckikemljlnaaGreatDoor

namespace Go.Proofs.YtahckikemljlnaaGreatDoor
open Go.RowKit De Wd

namespace Wd
end Wd

theorem convRow (w : World) (s : ByteArray) (hs : s.size ≤ 100000) : Row (Lib.bytesWorld w 5 s) (.slice (some ⟨w.heap.size, 0, none⟩) s.size (grownCap w s.size 0 5)) (sb s).length ((sb s).map (Value.int .u8)) :=
  ⟨_, _, by rw [sb_len], by rw [sb_len]; exact grownCap_ge w s.size 0 _, grownCap_le_maxLen w s.size 0 _ (by unfold maxLen; omega), .inr ⟨w.heap.size, 0, rfl, by rw [Lib.bytesWorld_size]; omega, convW_cells w _ s⟩⟩
end Go.Proofs.YtahckikemljlnaaGreatDoor

namespace Go.Proofs.YtahckikemljlnaaGreatDoor
open Go.RowKit De Wd

theorem set1 {w : World} {p : Nat} {a : Value} {t : TypeId} (h : w.heap[p]? = some (.cells #[a] t (0, 0))) (x : Value) : (w.setCell ⟨p, 0, none⟩ x).heap[p]? = some (.cells #[x] t (0, 0)) := setc h x

def wcs (s : ByteArray) (W : List (Nat × Wt)) : List Value := W.flatMap fun p => wval s p.1 p.2
theorem wcs_append (s : ByteArray) (A B : List (Nat × Wt)) : wcs s (A ++ B) = wcs s A ++ wcs s B := by simp [wcs]
theorem threeW (w : World) (o0 o1 o2 : Obj) (W : World) (h : W = (((w.alloc o0).alloc o1).alloc o2)) :
    W.heap[w.heap.size]? = some o0 ∧ W.heap[w.heap.size + 1]? = some o1 ∧ W.heap[w.heap.size + 1 + 1]? = some o2 ∧ W.heap.size = w.heap.size + 1 + 1 + 1 ∧ Below w.heap.size w W := by
  subst h
  refine ⟨?_, ?_, ?_, by simp, ((((Below.refl _ _).alloc (Nat.le_refl _) _).alloc (by simp) _).alloc (by simp; omega) _)⟩
  · rw [Below.heap_alloc _ _ _ (by simp <;> omega), Below.heap_alloc _ _ _ (by simp)]
    exact heap_alloc_new w _
  · rw [Below.heap_alloc _ _ _ (by simp)]
    have := heap_alloc_new (w.alloc o0) o1
    simpa using this
  · have := heap_alloc_new ((w.alloc o0).alloc o1) o2
    simpa using this
structure Hold3 (w w' : World) (u : Value) : Prop where
  h0 : w'.heap[w.heap.size]? = some (.cells #[u] 74 (0, 0))
  h1 : w'.heap[w.heap.size + 1]? = some (.cells #[.int .i64 0] 3 (0, 0))
  h2 : w'.heap[w.heap.size + 1 + 1]? = some (.cells #[.int .i64 0] 3 (0, 0))
  bel : Below w.heap.size w w'
theorem Hold3.below {w a b : World} {u : Value} (h : Hold3 w a u) (hs : w.heap.size + 1 + 1 < a.heap.size) (hb : Below a.heap.size a b) : Hold3 w b u :=
  ⟨by rw [hb.block _ (by omega)]; exact h.h0, by rw [hb.block _ (by omega)]; exact h.h1, by rw [hb.block _ (by omega)]; exact h.h2, h.bel.trans (hb.mono h.bel.size)⟩

end Go.Proofs.YtahckikemljlnaaGreatDoor

namespace Go.Proofs.YtahckikemljlnaaGreatDoor
open Go.RowKit De Wd

structure AllAt (s : ByteArray) (w wr : World) (q a : Nat) (u : Value) (W : List (Nat × Wt)) : Prop where
  le : a ≤ s.size
  hold : Hold3 w wr u
  lo : w.heap.size + 1 + 1 < q
  hi : q < wr.heap.size
  bad : wr.heap[q]? = some (.cells #[.int .i64 (fb (sb s) : Int)] 3 (0, 0))
  own : wr.ownsRow (q + 1) 79 3 u W.length (wcs s W)
  len : W.length ≤ a
  sc : Wd.sc 0 (sb s) = (W ++ (Wd.sc a ((sb s).drop a)).1, (Wd.sc a ((sb s).drop a)).2)
theorem Hold3.grown {w a b : World} {u : Value} {row : Option Nat} (h : Hold3 w a u) (hs : w.heap.size + 1 + 1 < a.heap.size) (hg : a.grownBy b row) (hr : ∀ j, row = some j → w.heap.size + 1 + 1 < j) : Hold3 w b u :=
  ⟨by rw [hg.block _ (by omega) (fun e => by have := hr _ e.symm; omega)]; exact h.h0, by rw [hg.block _ (by omega) (fun e => by have := hr _ e.symm; omega)]; exact h.h1, by rw [hg.block _ (by omega) (fun e => by have := hr _ e.symm; omega)]; exact h.h2,
    h.bel.grown hg h.bel.size (fun j hj => by have := hr j hj; omega)⟩
theorem Hold3.set {w a : World} {u : Value} (h : Hold3 w a u) (v : Value) : Hold3 w (a.setCell ⟨w.heap.size, 0, none⟩ v) v :=
  ⟨set1 h.h0 v, by rw [Below.heap_setCell _ _ _ _ (by simp)]; exact h.h1, by rw [Below.heap_setCell _ _ _ _ (by simp; omega)]; exact h.h2, h.bel.setCell (Nat.le_refl _) _⟩
theorem owns_setOther {w : World} {base size n p i : Nat} {e : TypeId} {v x : Value} {xs : List Value} (h : w.ownsRow base e size v n xs) (hp : p < base) : (w.setCell ⟨p, i, none⟩ x).ownsRow base e size v n xs := by
  obtain ⟨h1, ⟨rfl, rfl⟩ | ⟨g, cap, cur, rfl, hg, hb, hr⟩⟩ := h
  · exact ⟨h1, .inl ⟨rfl, rfl⟩⟩
  · exact ⟨h1, .inr ⟨g, cap, cur, rfl, hg, by rw [Below.heap_setCell _ _ _ _ (by simp; omega)]; exact hb, hr⟩⟩
theorem AllAt.push {s : ByteArray} {w wr w2 : World} {q a : Nat} {u v : Value} {W : List (Nat × Wt)} {x : Wt} (h : AllAt s w wr q a u W) (hx : wd ((sb s).drop a) = some x) (hk : x.k ≠ 0) (hh : Hold3 w w2 u) (hq : w2.heap[q]? = some (.cells #[.int .i64 (fb (sb s) : Int)] 3 (0, 0)))
    (hown : w2.ownsRow (q + 1) 79 3 v (W.length + 1) (wcs s W ++ wval s a x)) : AllAt s w (w2.setCell ⟨w.heap.size, 0, none⟩ v) q (a + x.z) v (W ++ [(a, x)]) := by
  have h1 := wd_ok hx
  have h2 := h1.2.1
  rw [List.length_drop, sb_len] at h2
  have hle := h.le
  have hlo := h.lo
  have hqs : q < w2.heap.size := by
    rcases Nat.lt_or_ge q w2.heap.size with h3 | h3
    · exact h3
    · rw [Array.getElem?_eq_none h3] at hq; cases hq
  refine ⟨by omega, hh.set v, hlo, by simpa [World.setCell] using hqs, by rw [Below.heap_setCell _ _ _ _ (by simp; omega)]; exact hq, ?_, ?_, ?_⟩
  · have := owns_setOther (i := 0) (x := v) (p := w.heap.size) hown (by omega)
    rw [wcs_append, List.length_append]
    simpa [wcs] using this
  · have := h.len; simp; omega
  · rw [h.sc, sc_cons hx, if_neg hk, List.drop_drop]; simp
end Go.Proofs.YtahckikemljlnaaGreatDoor

namespace Go.Proofs.YtahckikemljlnaaGreatDoor
open Go.RowKit De Wd

namespace Wd
abbrev Its := List (Nat × It)
def pk (L : Its) (k : Nat) : Int := match L[k]? with | some p => if p.2.bad = true then -1 else p.2.r | none => -1
def plc (L : Its) (n k : Nat) : Nat := match L[k]? with | some p => p.1 | none => n
theorem pk_end {L : Its} {k : Nat} (h : ¬ k < L.length) : pk L k = -1 := by unfold pk; rw [List.getElem?_eq_none (by omega)]
end Wd
structure CI (w : World) (p : Nat) (L : Its) (k n : Nat) (v : Value) : Prop where
  hh : w.heap[p]? = some (.cells #[v, .int .i64 k, .int .i64 n] 295 (0, 0))
  row : Row w v L.length (itsc L)
  far : ∀ b off cap, v = .slice (some ⟨b, off, none⟩) L.length cap → b ≠ p
  le : k ≤ L.length
  small : L.length ≤ 1000000
theorem CI.moved {w w' : World} {p k n : Nat} {L : Its} {v : Value} (h : CI w p L k n v) (hb : Below w.heap.size w w') : CI w' p L k n v :=
  ⟨by rw [hb.block p (by rcases Nat.lt_or_ge p w.heap.size with h1 | h1; exact h1; have := h.hh; rw [Array.getElem?_eq_none h1] at this; cases this)]; exact h.hh, h.row.below hb, h.far, h.le, h.small⟩
theorem CI.drewN {w : World} {p k n : Nat} {L : Its} {v : Value} (h : CI w p L k n v) (q : Nat) : CI (w.drewN q) p L k n v :=
  h.moved ⟨rfl, rfl, rfl, Nat.le_refl _, fun _ _ => rfl⟩
theorem CI.at {w : World} {p k n k' : Nat} {L : Its} {v : Value} (h : CI w p L k n v) (hk : k' ≤ L.length) : CI (w.setCell ⟨p, 1, none⟩ (.int .i64 k')) p L k' n v := by
  refine ⟨?_, ?_, h.far, hk, h.small⟩
  · have := h.hh; simp [World.setCell, Array.getElem?_modify, this]
  · obtain ⟨o, cap, rfl, h1, h2, h3⟩ := h.row
    refine ⟨o, cap, rfl, h1, h2, ?_⟩
    rcases h3 with h3 | ⟨b, off, rfl, hb, hc⟩
    · exact .inl h3
    · refine .inr ⟨b, off, rfl, by simpa [World.setCell] using hb, fun j u hu => ?_⟩
      have hne := h.far b off cap rfl
      rw [← hc j u hu]
      unfold World.cell?
      rw [Below.heap_setCell _ _ _ _ hne]

theorem drewN_two (w : World) (a b : Nat) : (w.drewN a).drewN b = w.drewN (a + b) := by unfold World.drewN; simp [Nat.add_assoc]
theorem ret_i32 {a b : Int} (h : a = b) : Ending.returned (.int .i32 a) = .returned (.int .i32 b) := by rw [h]
set_option maxHeartbeats 2000000 in
set_option maxRecDepth 100000 in
theorem peek_any (p k n : Nat) (L : Its) (v : Value) (w : World) (h : CI w p L k n v) :
    Calls Tryz.prog 272 #[.pointer (some ⟨p, 0, none⟩)] w fun e w' => e = .returned (.int .i32 (pk L k)) ∧ ∃ q, w' = w.drewN q := by
  have hle := h.le
  obtain ⟨⟨c0, c1, c2⟩, f0, f1, f2⟩ := cells3_of h.hh
  by_cases hk : k < L.length
  · obtain ⟨q, hq⟩ : ∃ q, L[k]? = some q := ⟨L[k], List.getElem?_eq_getElem hk⟩
    obtain ⟨b1, f1', k1, rfl, hb1, a0, a1, a2, a3, a4⟩ := h.row.item hq
    have e1 : ((k : Int) == (L.length : Int)) = false := by simp; omega
    have e2 : (k == L.length) = false := by simp; omega
    have hii : (0 : Int) ≤ (k : Int) := by omega
    have hij : (k : Int) < (L.length : Int) := by omega
    cases hbad : q.2.bad with
    | true =>
      have hpk : pk L k = -1 := by unfold pk; rw [hq]; simp [hbad]
      rw [hbad] at a3
      have HP := Lib.hid hpk
      clear h hq hbad hpk
      go_enter Tryz.func272, Tryz.ntmps272
      go_wp2
      go_quiet (fail)
      go_wp2
      go_ret
      exact ⟨ret_i32 HP.out.symm, _, by first | rfl | exact drewN_two _ _ _⟩
    | false =>
      have hpk : pk L k = q.2.r := by unfold pk; rw [hq]; simp [hbad]
      rw [hbad] at a3
      have HP := Lib.hid hpk
      clear h hq hbad hpk
      go_enter Tryz.func272, Tryz.ntmps272
      go_wp2
      go_quiet (fail)
      go_wp2
      go_quiet (fail)
      go_wp2
      go_ret
      exact ⟨ret_i32 HP.out.symm, _, by first | rfl | exact drewN_two _ _ _⟩
  · have hkn : k = L.length := by omega
    have hpk := pk_end hk
    obtain ⟨o, cap, rfl, _⟩ := h.row
    have HP := Lib.hid hpk
    have e1 : ((k : Int) == (L.length : Int)) = true := by simp; omega
    have e2 : (k == L.length) = true := by simp; omega
    clear h hk hkn hpk
    go_enter Tryz.func272, Tryz.ntmps272
    go_wp2
    go_quiet (fail)
    go_wp2
    go_ret
    exact ⟨ret_i32 HP.out.symm, _, by first | rfl | exact drewN_two _ _ _⟩
set_option maxHeartbeats 2000000 in
set_option maxRecDepth 100000 in
theorem cfail_any (p k n : Nat) (L : Its) (v : Value) (w : World) (h : CI w p L k n v) :
    Calls Tryz.prog 276 #[.pointer (some ⟨p, 0, none⟩)] w fun e w' => e = flt 3 (plc L n k) ∧ ∃ q, w' = w.drewN q := by
  have hle := h.le
  obtain ⟨⟨c0, c1, c2⟩, f0, f1, f2⟩ := cells3_of h.hh
  by_cases hk : k < L.length
  · obtain ⟨q, hq⟩ : ∃ q, L[k]? = some q := ⟨L[k], List.getElem?_eq_getElem hk⟩
    obtain ⟨b1, f1', k1, rfl, hb1, a0, a1, a2, a3, a4⟩ := h.row.item hq
    have e1 : decide ((k : Int) < (L.length : Int)) = true := by simp; omega
    have e2 : decide (k < L.length) = true := by simp; omega
    have hii : (0 : Int) ≤ (k : Int) := by omega
    have hij : (k : Int) < (L.length : Int) := by omega
    have hpk : plc L n k = q.1 := by unfold plc; rw [hq]
    have HP := Lib.hid hpk
    clear h hq hpk
    go_enter Tryz.func276, Tryz.ntmps276
    go_wp2
    go_quiet (fail)
    go_wp2
    go_quiet (fail)
    go_wp2
    exact ⟨rfl, by rw [HP.out], _, by first | rfl | exact drewN_two _ _ _⟩
  · obtain ⟨o, cap, rfl, _⟩ := h.row
    have hpk : plc L n k = n := by unfold plc; rw [List.getElem?_eq_none (by omega)]
    have HP := Lib.hid hpk
    have e1 : decide ((k : Int) < (L.length : Int)) = false := by simp; omega
    have e2 : decide (k < L.length) = false := by simp; omega
    clear h hk hpk
    go_enter Tryz.func276, Tryz.ntmps276
    go_wp2
    go_quiet (fail)
    go_wp2
    exact ⟨rfl, by rw [HP.out], _, by first | rfl | exact drewN_two _ _ _⟩
end Go.Proofs.YtahckikemljlnaaGreatDoor
