/- decode: one. -/
import Derived.Test.YtkngppkchaadhaaDecOne
set_option linter.unusedVariables false
set_option linter.unusedSimpArgs false
namespace Go.Proofs.Ytkngppkchaadhaa
open Go.RowKit De

namespace De
theorem one_bad2 (l : List Int) (h : (one l).bad = true) : (one l).r = 65533 ∧ ((one l).more = true ∨ (one l).n = 1) := by
  cases l with
  | nil => simp [one]
  | cons c t =>
    simp only [one] at h ⊢
    split at h
    · rename_i hc; rw [if_pos hc]; simp
    · rename_i hc
      rw [if_neg hc]
      have := go_bad _ _ _ _ _ _ h
      exact ⟨this.1, .inl this.2.2⟩
end De

theorem five (w : World) (o0 o1 o2 o3 o4 : Obj) (W : World) (h : W = ((((w.alloc o0).alloc o1).alloc o2).alloc o3).alloc o4) :
    W.heap[w.heap.size]? = some o0 ∧ W.heap[w.heap.size + 1]? = some o1 ∧ W.heap[w.heap.size + 1 + 1]? = some o2 ∧ W.heap[w.heap.size + 1 + 1 + 1]? = some o3 ∧ W.heap[w.heap.size + 1 + 1 + 1 + 1]? = some o4 := by
  subst h
  refine ⟨?_, ?_, ?_, ?_, ?_⟩
  · rw [Below.heap_alloc _ _ _ (by simp <;> omega), Below.heap_alloc _ _ _ (by simp <;> omega), Below.heap_alloc _ _ _ (by simp <;> omega), Below.heap_alloc _ _ _ (by simp)]
    exact heap_alloc_new w _
  · rw [Below.heap_alloc _ _ _ (by simp <;> omega), Below.heap_alloc _ _ _ (by simp <;> omega), Below.heap_alloc _ _ _ (by simp)]
    have := heap_alloc_new (w.alloc o0) o1
    simpa using this
  · rw [Below.heap_alloc _ _ _ (by simp <;> omega), Below.heap_alloc _ _ _ (by simp)]
    have := heap_alloc_new ((w.alloc o0).alloc o1) o2
    simpa using this
  · rw [Below.heap_alloc _ _ _ (by simp)]
    have := heap_alloc_new (((w.alloc o0).alloc o1).alloc o2) o3
    simpa using this
  · have := heap_alloc_new ((((w.alloc o0).alloc o1).alloc o2).alloc o3) o4
    simpa using this
/-- an item as a value -/
def itc (f : Int) (x : It) : List Value := [.int .i32 x.r, .int .i64 f, .int .i64 (f + x.n), .bool x.bad, .bool x.more]

set_option maxHeartbeats 2000000 in
set_option maxRecDepth 1000000 in
theorem one_any (c : Int) (t : List Int) (v : Value) (f : Int) (w : World) (hr : Row w v (c :: t).length ((c :: t).map (Value.int .u8))) (hu : ∀ x ∈ c :: t, 0 ≤ x ∧ x < 256) (hf : 0 ≤ f ∧ f ≤ 1000000000) (hl : (c :: t).length ≤ 1000000) :
    Calls Try.prog 43 #[v, .int .i64 f] w fun e w' => e = .returned (.tuple #[.agg (itc f (one (c :: t))).toArray, .bool (one (c :: t)).opn]) ∧ Below w.heap.size w w' := by
  have hmf : ∀ (fn : Fn) (first cap : Array Value) (w : World), (Instr.makeFunc fn first cap).run Try.prog w = .ok (.func fn first cap) w := fun _ _ _ _ => rfl
  have hlen : (c :: t).length = t.length + 1 := rfl
  obtain ⟨b, off, cap, rfl, hbl, hcell⟩ : ∃ b off cap, v = .slice (some ⟨b, off, none⟩) (c :: t).length cap ∧ b < w.heap.size ∧ w.cell? ⟨b, off, none⟩ = some (.int .u8 c) := by
    obtain ⟨o, cap, rfl, h1, h2, h3⟩ := hr
    rcases h3 with ⟨h0, _⟩ | ⟨b, off, rfl, hb, hc⟩
    · simp at h0
    · exact ⟨b, off, cap, rfl, hb, by have := hc 0 (.int .u8 c) (by simp); simpa using this⟩
  have HR := Lib.hid hr
  obtain ⟨W5, hW5⟩ : ∃ W5, W5 = (((((w.alloc (.cells #[.slice (some ⟨b, off, none⟩) (t.length + 1) cap] 40)).alloc (.cells #[.int .i64 f] 3)).alloc (.cells #[.int .i32 0, .int .i64 0, .int .i64 0, .bool false, .bool false] 54)).alloc (.cells #[.bool false] 4)).alloc (.cells #[.int .i64 0] 3)) := ⟨_, rfl⟩
  have hbel : Below w.heap.size w W5 := by
    rw [hW5]
    exact (((((Below.refl _ _).alloc (Nat.le_refl _) _).alloc (by simp) _).alloc (by simp; omega) _).alloc (by simp; omega) _).alloc (by simp; omega) _
  have h5 : W5.cell? ⟨b, off, none⟩ = some (.int .u8 c) := by rw [hbel.cell hbl]; exact hcell
  have HB := Lib.hid (And.intro hbel hW5)
  have hz : W5.heap.size = w.heap.size + 1 + 1 + 1 + 1 + 1 := by rw [hW5]; simp
  have HZ := Lib.hid hz
  rw [hW5] at h5
  clear hz hbel hW5
  clear hr hlen
  go_enter_defers Try.func43, Try.ntmps43
  go_wp2_with fail
  obtain ⟨hbel, hW5⟩ := HB.out
  have hz := HZ.out
  obtain ⟨G0, G1, G2, G3, G4⟩ := five w _ _ _ _ _ W5 hW5
  rw [← hW5]
  have hS : St w W5 (w.heap.size + 1 + 1 + 1 + 1) w.heap.size 0 (.slice (some ⟨b, off, none⟩) (t.length + 1) cap) (c :: t) :=
    ⟨G4, G0, HR.out, hbel, by omega, by omega, by omega, by omega⟩
  clear h5 hW5 HB hcell
  refine (seq_any w _ _ _ c t W5 hS hu).mono ?_
  rintro e w1 ⟨he, hS1, hbut⟩
  have F1 : w1.heap[w.heap.size + 1]? = some (.cells #[.int .i64 f] 3 (0, 0)) := by rw [hbut.block _ (by omega) (by omega) (by omega)]; exact G1
  have F2 : w1.heap[w.heap.size + 1 + 1]? = some (.cells #[.int .i32 0, .int .i64 0, .int .i64 0, .bool false, .bool false] 54 (0, 0)) := by rw [hbut.block _ (by omega) (by omega) (by omega)]; exact G2
  have F3 : w1.heap[w.heap.size + 1 + 1 + 1]? = some (.cells #[.bool false] 4 (0, 0)) := by rw [hbut.block _ (by omega) (by omega) (by omega)]; exact G3
  have F4 := hS1.good
  have hsz := hbut.size
  obtain ⟨x, hx⟩ : ∃ x, x = one (c :: t) := ⟨_, rfl⟩
  have hn := one_n (c :: t)
  have hb2 := one_bad2 (c :: t)
  have hg2 := one_good (c :: t) hu
  rw [← hx] at he hS1 F4 hn hb2 hg2
  have HE := Lib.hid hx
  have HX := Lib.hid (And.intro hn (And.intro hb2 (And.intro hg2 (And.intro hS1 (And.intro F2 F3)))))
  clear G0 G1 G2 G3 G4 hS hx HR hn hb2 hg2
  obtain ⟨c1, z1⟩ := cell1_of F1
  obtain ⟨c3, z3⟩ := cell1_of F3
  obtain ⟨c4, z4⟩ := cell1_of F4
  obtain ⟨⟨i0, i1, i2, i3, i4⟩, j0, j1, j2, j3, j4⟩ := cell5_of F2
  rcases he with ⟨hbad, rfl⟩ | ⟨hbad, rfl⟩
  · have hgd : gd x = x.n := by simp [gd, hbad]
    have Hb := Lib.hid hbad
    rw [hgd] at c4
    have hn4 := HX.out.1
    clear hS1 F1 F2 F3 F4 hgd hbad hbut
    go_wp2
    obtain ⟨W6, hW6⟩ : ∃ W6, W6 = ((((((w1.setCell ⟨w.heap.size + 1 + 1, 0, none⟩ (.int .i32 x.r)).setCell ⟨w.heap.size + 1 + 1, 1, none⟩ (.int .i64 f)).setCell ⟨w.heap.size + 1 + 1, 2, none⟩ (.int .i64 (f + (x.n : Int)))).setCell ⟨w.heap.size + 1 + 1, 3, none⟩ (.bool false)).setCell ⟨w.heap.size + 1 + 1, 4, none⟩ (.bool false)).setCell ⟨w.heap.size + 1 + 1 + 1, 0, none⟩ (.bool false)) := ⟨_, rfl⟩
    rw [← hW6]
    clear c1 z1 c3 z3 c4 z4 i0 i1 i2 i3 i4 j0 j1 j2 j3 j4
    have hb := Hb.out
    obtain ⟨hn, hb2, hg2, hS1, F2, F3⟩ := HX.out
    obtain ⟨g1, g2, g3, g4⟩ := hg2 hb
    have H2 : W6.heap[w.heap.size + 1 + 1]? = some (.cells #[.int .i32 x.r, .int .i64 f, .int .i64 (f + (x.n : Int)), .bool false, .bool false] 54 (0, 0)) := by
      rw [hW6, Below.heap_setCell _ _ _ _ (by simp)]; exact set5 F2 _ _ _ _ _
    have H3 : W6.heap[w.heap.size + 1 + 1 + 1]? = some (.cells #[.bool false] 4 (0, 0)) := by
      rw [hW6]; refine setc (a := .bool false) ?_ _
      rw [Below.heap_setCell _ _ _ _ (by simp), Below.heap_setCell _ _ _ _ (by simp), Below.heap_setCell _ _ _ _ (by simp), Below.heap_setCell _ _ _ _ (by simp), Below.heap_setCell _ _ _ _ (by simp)]; exact F3
    have HB6 : Below w.heap.size w W6 := by
      rw [hW6]; have q : w.heap.size ≤ w.heap.size + 1 + 1 := by omega
      exact (((((hS1.bel.setCell q _).setCell q _).setCell q _).setCell q _).setCell q _).setCell (Nat.le_succ_of_le q) _
    have hs6 := HB6.size
    clear hW6
    refine leaves_cons (f := 58) (args := #[.pointer (some ⟨w.heap.size + 1, 0, none⟩), .pointer (some ⟨w.heap.size + 1 + 1 + 1 + 1, 0, none⟩), .pointer (some ⟨w.heap.size + 1 + 1, 0, none⟩), .pointer (some ⟨w.heap.size + 1 + 1 + 1, 0, none⟩)]) (by simp) (by simp [go_sem]) ?_
    refine (catch_idle _ _ _ _ _).mono ?_
    rintro e u' w'' ⟨rfl, rfl, rfl⟩
    obtain ⟨W7, hW7⟩ : ∃ W7, W7 = W6.alloc (.cells #[.bool false] 87) := ⟨_, rfl⟩
    rw [← hW7]
    have K2 := H2
    have K3 := H3
    rw [← Below.heap_alloc W6 (.cells #[.bool false] 87) _ (by rcases Nat.lt_or_ge (w.heap.size + 1 + 1) W6.heap.size with h | h; exact h; simp [h] at H2), ← hW7] at K2
    rw [← Below.heap_alloc W6 (.cells #[.bool false] 87) _ (by rcases Nat.lt_or_ge (w.heap.size + 1 + 1 + 1) W6.heap.size with h | h; exact h; simp [h] at H3), ← hW7] at K3
    have HB7 : Below w.heap.size w W7 := by rw [hW7]; exact HB6.alloc HB6.size _
    clear hW7 H2 H3 HB6
    obtain ⟨c3, z3⟩ := cell1_of K3
    obtain ⟨⟨i0, i1, i2, i3, i4⟩, _⟩ := cell5_of K2
    simp [Leaves, settle, results, Try.results43, go_sem, c3, i0, i1, i2, i3, i4]
    rw [← HE.out]
    exact ⟨⟨by simp [itc, hb, g3], g4⟩, HB7⟩
  · have Hb := Lib.hid (And.intro hbad (And.intro F1 (And.intro F4 hbut)))
    clear hS1 F1 F2 F3 F4 hbad hbut
    go_wp2
    have hb := Hb.out.1
    obtain ⟨hn, hb2, hg2, hS1, F2, F3⟩ := HX.out
    obtain ⟨g1, g2⟩ := hb2 hb
    have hgd : gd x ≤ 4 := by unfold gd; split <;> omega
    refine leaves_cons (f := 58) (args := #[.pointer (some ⟨w.heap.size + 1, 0, none⟩), .pointer (some ⟨w.heap.size + 1 + 1 + 1 + 1, 0, none⟩), .pointer (some ⟨w.heap.size + 1 + 1, 0, none⟩), .pointer (some ⟨w.heap.size + 1 + 1 + 1, 0, none⟩)]) (by simp) (by simp [go_sem]) ?_
    refine (catch_panic _ _ _ _ f (gd x) x.opn w1 Hb.out.2.1 Hb.out.2.2.1 F2 F3 hf hgd (by omega)).mono ?_
    rintro e u' w7 ⟨rfl, rfl, K2, K3, hbel7⟩
    have HB7 : Below w.heap.size w w7 := hS1.bel.trans (hbel7 _ (by omega) (by omega) (by omega))
    obtain ⟨c3', z3'⟩ := cell1_of K3
    obtain ⟨⟨i0', i1', i2', i3', i4'⟩, _⟩ := cell5_of K2
    clear c1 z1 c3 z3 c4 z4 i0 i1 i2 i3 i4 j0 j1 j2 j3 j4
    simp [Leaves, settle, results, Try.results43, go_sem, c3', i0', i1', i2', i3', i4']
    rw [← HE.out]
    refine ⟨⟨?_, rfl⟩, HB7⟩
    have q1 : f + max ((gd x : Nat) : Int) 1 = f + (x.n : Int) := by
      unfold gd
      rcases g2 with g2 | g2
      · simp [g2]; omega
      · split <;> omega
    have q2 : decide (0 < gd x) = x.more := by
      unfold gd
      rcases g2 with g2 | g2
      · simp [g2]; omega
      · cases hm : x.more with
        | true => simp; omega
        | false => simp [hb]
    simp [itc, hb, g1, q1, q2]
end Go.Proofs.Ytkngppkchaadhaa
