/- word: element. -/
import Derived.Test.YtkngppkchaadhaaClsHas
set_option linter.unusedVariables false
set_option linter.unusedSimpArgs false
namespace Go.Proofs.Ytkngppkchaadhaa
open Go.RowKit De Wd

theorem CI.lt {w : World} {p k n : Nat} {L : Its} {v : Value} (h : CI w p L k n v) : p < w.heap.size := by
  rcases Nat.lt_or_ge p w.heap.size with h1 | h1
  · exact h1
  · have := h.hh; rw [Array.getElem?_eq_none h1] at this; cases this
theorem CI.setNew {w w' : World} {p k0 k n E i : Nat} {L : Its} {v x : Value} (h0 : CI w p L k0 n v) (h : CI w' p L k n v) (hE : w.heap.size ≤ E) : CI (w'.setCell ⟨E, i, none⟩ x) p L k n v := by
  have hp := h0.lt
  refine ⟨?_, ?_, h.far, h.le, h.small⟩
  · rw [Below.heap_setCell _ _ _ _ (by simp; omega)]; exact h.hh
  · obtain ⟨o, cap, rfl, h1, h2, h3⟩ := h.row
    obtain ⟨o', cap', e, _, _, h3'⟩ := h0.row
    simp only [Value.slice.injEq, true_and] at e
    obtain ⟨rfl, rfl⟩ := e
    refine ⟨o, cap, rfl, h1, h2, ?_⟩
    rcases h3 with h3 | ⟨b, off, rfl, hb, hc⟩
    · exact .inl h3
    · rcases h3' with h3' | ⟨b', off', e, hb', _⟩
      · exact .inl ⟨h3'.1, fun e => by cases e⟩
      · simp only [Option.some.injEq, Addr.mk.injEq, and_true] at e
        obtain ⟨rfl, rfl⟩ := e
        refine .inr ⟨b, off, rfl, by simpa [World.setCell] using hb, fun j u hu => ?_⟩
        rw [← hc j u hu]
        unfold World.cell?
        rw [Below.heap_setCell _ _ _ _ (by simp; omega)]
theorem Ch.setNew {w w' : World} {p E i : Nat} {x : Value} (h : Ch w w' p) (hE : w.heap.size ≤ E) : Ch w (w'.setCell ⟨E, i, none⟩ x) p :=
  ⟨h.os, h.tape, h.output, by simpa [World.setCell] using h.size, fun k hk hp => by rw [Below.heap_setCell _ _ _ _ (by simp; omega)]; exact h.block k hk hp⟩
theorem Ch.new (w : World) (o : Obj) (p : Nat) : Ch w (w.alloc o) p := Ch.of (bel_new (Below.refl _ _) o)
def ElPost (p : Nat) (L : Its) (k n : Nat) (v : Value) (w : World) (e : Ending) (w' : World) : Prop :=
  match el L k with
  | .ok (q, k') => e = .returned (.agg #[.int .i32 q.1, .int .i32 q.2]) ∧ CI w' p L k' n v ∧ Ch w w' p
  | .error j => e = flt 3 (plc L n j) ∧ Ch w w' p
theorem el_no {p k n j : Nat} {L : Its} {v : Value} {w w' : World} (h : el L k = .error j) (hc : Ch w w' p) : ElPost p L k n v w (flt 3 (plc L n j)) w' := by
  unfold ElPost; rw [h]; exact ⟨rfl, hc⟩
theorem el_yes {p k n k' : Nat} {L : Its} {v : Value} {w w' : World} {a b : Int} (h : el L k = .ok ((a, b), k')) (hi : CI w' p L k' n v) (hc : Ch w w' p) : ElPost p L k n v w (.returned (.agg #[.int .i32 a, .int .i32 b])) w' := by
  unfold ElPost; rw [h]; exact ⟨rfl, hi, hc⟩
theorem cells2_of {w : World} {p : Nat} {a b : Value} {t : TypeId} (h : w.heap[p]? = some (.cells #[a, b] t (0, 0))) :
    (w.cell? ⟨p, 0, none⟩ = some a ∧ w.cell? ⟨p, 1, none⟩ = some b) ∧ w.frozen? ⟨p, 0, none⟩ = false ∧ w.frozen? ⟨p, 1, none⟩ = false := by
  simp [World.cell?, World.frozen?, h]

set_option maxHeartbeats 4000000 in
set_option maxRecDepth 100000 in
theorem element_any (p k n : Nat) (L : Its) (v : Value) (w : World) (h : CI w p L k n v) (hpl : Pl L) :
    Calls Try.prog 23 #[.pointer (some ⟨p, 0, none⟩)] w (ElPost p L k n v w) := by
  have H := Lib.hid h
  have hlt := h.lt
  have HPL := Lib.hid hpl
  have hA := h.moved (bel_new (Below.refl _ _) (.cells #[.int .i32 0, .int .i32 0] 43))
  have HA := Lib.hid hA
  clear h hpl hA
  have hpe : ¬ p = w.heap.size := by omega
  go_enter Try.func23, Try.ntmps23
  go_wp2_with fail
  refine (letter_any p k n L v _ HA.out HPL.out).mono ?_
  rintro e w1 (⟨ht, rfl, hci, hch⟩ | ⟨ht, rfl, hci, hch⟩)
  · have hE1 : w1.heap[w.heap.size]? = some (.cells #[.int .i32 0, .int .i32 0] 43 (0, 0)) := by rw [hch.block _ (by simp) (fun e => hpe e.symm)]; exact heap_alloc_new w _
    have hs1 : w.heap.size < w1.heap.size := by have := hch.size; simp at this; omega
    have hch1 : Ch w w1 p := (Ch.new w _ p).trans hch
    have H1 := Lib.hid (And.intro ht (And.intro hci (And.intro hch1 hE1)))
    clear ht hci hch hch1 hE1
    go_wp2_with fail
    refine (peek_any p (k + 1) n L v _ H1.out.2.1).mono ?_
    rintro e w2 ⟨rfl, q, rfl⟩
    obtain ⟨⟨c0, c1⟩, f0, f1⟩ := cells2_of H1.out.2.2.2
    by_cases h45 : pk L (k + 1) = 45
    · have t45 : (pk L (k + 1) != 45) = false := by simp [h45]
      have HB := Lib.hid h45
      obtain ⟨⟨d0, d1, d2⟩, g0, g1, g2⟩ := cells3_of H1.out.2.1.hh
      have hkl : k + 1 ≤ L.length := H1.out.2.1.le
      have hsm := H1.out.2.1.small
      have hk2 : k + 2 ≤ L.length := by
        rcases Nat.lt_or_ge (k + 1) L.length with h1 | h1
        · omega
        · rw [pk_end (by omega)] at h45; omega
      clear h45
      have hat := (H1.out.2.1.drewN q).at (k' := k + 2) hk2
      have hca : Ch w ((w1.drewN q).setCell ⟨p, 1, none⟩ (.int .i64 ((k + 2 : Nat) : Int))) p := (H1.out.2.2.1.trans (Ch.drewN p q)).trans (Ch.set _ _ _ _)
      have hEa : ((w1.drewN q).setCell ⟨p, 1, none⟩ (.int .i64 ((k + 2 : Nat) : Int))).heap[w.heap.size]? = some (.cells #[.int .i32 0, .int .i32 0] 43 (0, 0)) := by
        rw [Below.heap_setCell _ _ _ _ (by simp; omega)]; exact H1.out.2.2.2
      go_wp2_with fail
      have ecast : (k : Int) + 1 + 1 = ((k + 2 : Nat) : Int) := by omega
      simp only [ecast]
      obtain ⟨W2, hW2⟩ : ∃ W2, W2 = (w1.drewN q).setCell ⟨p, 1, none⟩ (.int .i64 ((k + 2 : Nat) : Int)) := ⟨_, rfl⟩
      rw [← hW2] at hat hca hEa ⊢
      have hs2 : w.heap.size < W2.heap.size := by rw [hW2]; simpa [World.setCell, World.drewN] using hs1
      clear hW2 c0 c1 f0 f1 d0 d1 d2 g0 g1 g2
      refine (letter_any p (k + 2) n L v _ hat HPL.out).mono ?_
      rintro e w3 (⟨ht3, rfl, hci3, hch3⟩ | ⟨ht3, rfl, hci3, hch3⟩)
      · have hE3 : w3.heap[w.heap.size]? = some (.cells #[.int .i32 0, .int .i32 0] 43 (0, 0)) := by rw [hch3.block _ hs2 (fun e => hpe e.symm)]; exact hEa
        have hs3 : w.heap.size < w3.heap.size := by have := hch3.size; omega
        have hc3 : Ch w w3 p := hca.trans hch3
        obtain ⟨⟨c0, c1⟩, f0, f1⟩ := cells2_of hE3
        by_cases hlo : pk L (k + 2) < pk L k
        · have hel : el L k = .error (k + 2) := by unfold el; rw [if_pos H1.out.1, if_pos HB.out, if_pos ht3, if_pos hlo]
          have HE := Lib.hid hel
          have hk3 : k + 2 ≤ L.length := hk2
          have hat4 := hci3.at (k' := k + 2) hk3
          obtain ⟨⟨d0, d1, d2⟩, g0, g1, g2⟩ := cells3_of hci3.hh
          have H4 := Lib.hid (And.intro hat4 (hc3.trans (Ch.set w3 p 1 (.int .i64 ((k + 2 : Nat) : Int)))))
          clear hel ht3 hci3 hch3 hc3 hE3 hat hca hEa hat4
          go_wp2_with fail
          refine (cfail_any p (k + 2) n L v _ H4.out.1).mono ?_
          rintro e w4 ⟨rfl, q2, rfl⟩
          go_wp2
          exact ⟨rfl, el_no HE.out (H4.out.2.trans (Ch.drewN p q2))⟩
        · have hel : el L k = .ok ((pk L k, pk L (k + 2)), k + 3) := by unfold el; rw [if_pos H1.out.1, if_pos HB.out, if_pos ht3, if_neg hlo]
          have HE := Lib.hid hel
          have H4 := Lib.hid (And.intro hci3 hc3)
          clear hel ht3 hci3 hch3 hc3 hE3 hat hca hEa
          go_wp2
          refine bodyPost_ret (v := .agg #[.int .i32 (pk L k), .int .i32 (pk L (k + 2))]) (by simp [results, Try.results23, go_sem, c0, c1, f0, f1, hs3]) rfl (el_yes HE.out ?_ ?_)
          · exact H.out.setNew (H.out.setNew H4.out.1 (Nat.le_refl _)) (Nat.le_refl _)
          · exact (H4.out.2.setNew (Nat.le_refl _)).setNew (Nat.le_refl _)
      · have hel : el L k = .error (k + 2) := by unfold el; rw [if_pos H1.out.1, if_pos HB.out, if_neg (by rw [ht3]; decide)]
        have HE := Lib.hid hel
        have hc3 : Ch w w3 p := hca.trans hch3
        clear hel ht3 hci3 hch3 hat hca hEa
        go_wp2
        exact ⟨rfl, el_no HE.out hc3⟩
    · have t45 : (pk L (k + 1) != 45) = true := by simpa using h45
      have hel : el L k = .ok ((pk L k, pk L k), k + 1) := by unfold el; rw [if_pos H1.out.1, if_neg h45]
      have HE := Lib.hid hel
      clear h45 hel
      go_wp2
      refine bodyPost_ret (v := .agg #[.int .i32 (pk L k), .int .i32 (pk L k)]) (by simp [results, Try.results23, go_sem, c0, c1, f0, f1, hs1]) rfl (el_yes HE.out ?_ ?_)
      · exact H.out.setNew (H.out.setNew (H1.out.2.1.drewN q) (Nat.le_refl _)) (Nat.le_refl _)
      · exact ((H1.out.2.2.1.trans (Ch.drewN p q)).setNew (Nat.le_refl _)).setNew (Nat.le_refl _)
  · have hel : el L k = .error k := by unfold el; rw [if_neg (by rw [ht]; decide)]
    have HE := Lib.hid hel
    have hch1 : Ch w w1 p := (Ch.new w _ p).trans hch
    clear ht hci hel hch
    go_wp2
    exact ⟨rfl, el_no HE.out hch1⟩
end Go.Proofs.Ytkngppkchaadhaa
