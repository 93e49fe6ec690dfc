/- print.joined: tokens, rules, steps. -/
import Derived.Test.YtbanmggkfpnalaaGreatDoorPrJoin
set_option linter.unusedVariables false
set_option linter.unusedSimpArgs false
namespace Go.Proofs.YtbanmggkfpnalaaGreatDoor
open Go.RowKit Ru
theorem mkJoinT_any (w : World) : Calls Tryz.prog 35 #[.string ⟨#[]⟩, .func (Fn.func 36) #[] #[]] w fun e w' =>
    e = .returned (.func (Fn.func 73) #[] #[.pointer (some ⟨w.heap.size + 1, 0, none⟩), .pointer (some ⟨w.heap.size, 0, none⟩)]) ∧
      w' = (w.alloc (.cells #[.string ⟨#[]⟩] 9)).alloc (.cells #[.func (Fn.func 36) #[] #[]] 74) := by
  go_enter Tryz.func35, Tryz.ntmps35
  go_wp2
  go_ret
  exact ⟨rfl, rfl⟩
set_option maxHeartbeats 4000000 in
set_option maxRecDepth 100000 in
theorem joinedT_any (q n : Nat) (o : Option Addr) (cap : Nat) (c0 : Nat → ByteArray) (c1 : Nat → Int) (c2 : Nat → Int) (c3 : Nat → Int) (o4 : Nat → Option Addr) (n4 p4 : Nat → Nat) (o5 : Nat → Option Addr) (n5 p5 : Nat → Nat) (T : Nat → ByteArray) (w : World) (hn : n ≤ 100000)
    (hel : ∀ i, i < n → ∃ b off, o = some ⟨b, off, none⟩ ∧ b < w.heap.size ∧ w.cell? ⟨b, off + i * 6, none⟩ = some (.string (c0 i)) ∧ w.cell? ⟨b, off + i * 6 + 1, none⟩ = some (.int .i64 (c1 i)) ∧ w.cell? ⟨b, off + i * 6 + 2, none⟩ = some (.int .i64 (c2 i)) ∧ w.cell? ⟨b, off + i * 6 + 3, none⟩ = some (.int .i64 (c3 i)) ∧ w.cell? ⟨b, off + i * 6 + 4, none⟩ = some (.slice (o4 i) (n4 i) (p4 i)) ∧ w.cell? ⟨b, off + i * 6 + 5, none⟩ = some (.slice (o5 i) (n5 i) (p5 i)))
    (hq0 : w.heap[q]? = some (.cells #[.string ⟨#[]⟩] 9 (0, 0))) (hq1 : w.heap[q + 1]? = some (.cells #[.func (Fn.func 36) #[] #[]] 74 (0, 0)))
    (hF : ∀ i, i < n → ∀ w', Below w.heap.size w w' → Calls Tryz.prog 36 #[.agg #[.string (c0 i), .int .i64 (c1 i), .int .i64 (c2 i), .int .i64 (c3 i), .slice (o4 i) (n4 i) (p4 i), .slice (o5 i) (n5 i) (p5 i)]] w' fun e w'' => e = .returned (.string (T i)) ∧ Below w'.heap.size w' w'')
    (hl : (catB ((List.range n).map T)).size ≤ 140737488355328) :
    Calls Tryz.prog 73 #[.slice o n cap, .pointer (some ⟨q + 1, 0, none⟩), .pointer (some ⟨q, 0, none⟩)] w fun e w' => e = .returned (.string (catB ((List.range n).map T))) ∧ Below w.heap.size w w' := by
  obtain ⟨i0, hi, hz0, hz1, hz2⟩ := infoStr1
  have HEL := Lib.hid hel
  have HF := Lib.hid hF
  have HL := Lib.hid hl
  have HQ := Lib.hid (And.intro hq0 hq1)
  clear hel hF hl hq0 hq1
  go_enter Tryz.func73, Tryz.ntmps73
  go_wp2_with fail
  go_loopw [5, 10] (fun x i wr => ∃ k : Nat, k ≤ n ∧ i = .int .i64 k ∧ wr.ownsRow w.heap.size 9 1 x k (strs ((List.range k).map T)) ∧ Below w.heap.size w wr) (fun _ i _ => n - (intOf i).toNat)
  case atStart => exact ⟨0, Nat.zero_le _, rfl, World.ownsRow_nil _ _ _ _, Below.refl _ _⟩
  case round =>
    obtain ⟨k, hk, rfl, hown, hbel⟩ := hrel
    have hbs := hbel.size
    obtain ⟨bx0, y0⟩ := cell1_of ((hbel.block _ (get_lt HQ.out.1)).trans HQ.out.1)
    obtain ⟨bx1, y1⟩ := cell1_of ((hbel.block _ (get_lt HQ.out.2)).trans HQ.out.2)
    have hlt1 := get_lt HQ.out.2
    have hlt2 : q + 1 < wr.heap.size := by omega
    have hne2 : ¬ q + 1 = wr.heap.size := by omega
    have hlt3 : q < wr.heap.size := by omega
    have hne3 : ¬ q = wr.heap.size := by omega
    by_cases hkl : k < n
    · have hd : decide ((k : Int) < (n : Int)) = true := by simp; omega
      have hk1 : (0 : Int) ≤ (k : Int) := by omega
      have hk2 : (k : Int) < (n : Int) := by omega
      obtain ⟨b, off, rfl, hlt, z0, z1, z2, z3, z4, z5⟩ := HEL.out k hkl
      rw [← hbel.cell hlt] at z0
      rw [← hbel.cell hlt] at z1
      rw [← hbel.cell hlt] at z2
      rw [← hbel.cell hlt] at z3
      rw [← hbel.cell hlt] at z4
      rw [← hbel.cell hlt] at z5
      have hlt' : b < wr.heap.size := by omega
      have hc := HF.out k hkl
      obtain ⟨g0, hg0⟩ : ∃ d, d = c0 k := ⟨_, rfl⟩
      rw [← hg0] at z0 hc
      clear hg0
      obtain ⟨g1, hg1⟩ : ∃ d, d = c1 k := ⟨_, rfl⟩
      rw [← hg1] at z1 hc
      clear hg1
      obtain ⟨g2, hg2⟩ : ∃ d, d = c2 k := ⟨_, rfl⟩
      rw [← hg2] at z2 hc
      clear hg2
      obtain ⟨g3, hg3⟩ : ∃ d, d = c3 k := ⟨_, rfl⟩
      rw [← hg3] at z3 hc
      clear hg3
      obtain ⟨go4, hgo4⟩ : ∃ d, d = o4 k := ⟨_, rfl⟩
      obtain ⟨gn4, hgn4⟩ : ∃ d, d = n4 k := ⟨_, rfl⟩
      obtain ⟨gp4, hgp4⟩ : ∃ d, d = p4 k := ⟨_, rfl⟩
      rw [← hgo4, ← hgn4, ← hgp4] at z4 hc
      clear hgo4 hgn4 hgp4
      obtain ⟨go5, hgo5⟩ : ∃ d, d = o5 k := ⟨_, rfl⟩
      obtain ⟨gn5, hgn5⟩ : ∃ d, d = n5 k := ⟨_, rfl⟩
      obtain ⟨gp5, hgp5⟩ : ∃ d, d = p5 k := ⟨_, rfl⟩
      rw [← hgo5, ← hgn5, ← hgp5] at z5 hc
      clear hgo5 hgn5 hgp5
      have HOWN := Lib.hid hown
      have HB := Lib.hid hbel
      have HC := Lib.hid hc
      clear hown hbel hc
      go_wp2_with fail
      refine (HC.out _ (HB.out.alloc hbs _)).mono ?_
      rintro e w2 ⟨rfl, hb2⟩
      have HB2 := Lib.hid hb2
      clear hb2 bx0 y0 bx1 y1
      go_wp2_with (first
        | (at_builtin; refine wpList_append_own _ rfl _ _ 44 rfl w.heap.size 9 i0 (.string ⟨#[]⟩) 1 16 Tryz.underlying44 hi hz0 hz1 hz2 rfl (by decide) _ k (strs ((List.range k).map T)) rfl ?c0 ⟨w2.heap.size, 0, none⟩ 1 1 [.string (T k)] rfl rfl ?c1 ?c2 ?c3 ?c4 ?c5 ?_)
        | go_in)
      case c0 => exact (owns_below (owns_below HOWN.out ((Below.refl _ _).alloc (Nat.le_refl _) _)) HB2.out).alloc _
      case c1 =>
        intro j u hj
        match j, hj with
        | 0, hj => simp at hj; subst hj; exact Joins.cell_alloc_mark_at _ #[.string (T k)] 9 (0, 0) _ 0 (by simp)
      case c2 => intro u hu; simp at hu; subst hu; rfl
      case c3 => unfold maxLen; omega
      case c4 => omega
      case c5 => have hz2 := HB2.out.size; simp at hz2; simp; omega
      intro v' w4 hown' hgrow _
      have hB1 : Below w.heap.size w w4 := by
        have hz2 := HB2.out.size
        simp at hz2
        refine ((bel_then (HB.out.alloc hbs _) HB2.out).alloc (by omega) _).grown hgrow (by simp; omega) (fun j hj => ?_)
        exact (HOWN.out.lt j hj).1
      have htk : (List.range (k + 1)).map T = (List.range k).map T ++ [T k] := by rw [List.range_succ]; simp
      have hown2 : w4.ownsRow w.heap.size 9 1 v' (k + 1) (strs ((List.range (k + 1)).map T)) := by
        rw [htk]; simpa [strs] using hown'
      have HO := Lib.hid hown2
      have HB4 := Lib.hid hB1
      clear hown' hgrow hown2 hB1 htk z0 z1 z2 z3 z4 z5 HB HB2 HOWN HC hne2 hne3 hlt1 hlt2 hlt3 hlt' hlt
      go_wp2_with fail
      go_roundw
      case rel => exact ⟨k + 1, by omega, by go_num, HO.out, HB4.out⟩
      case measure => simp [intOf]; omega
    · have hkn : k = n := by omega
      subst hkn
      have hd : decide ((k : Int) < (k : Int)) = false := by simp
      have hrow : Row wr u5 ((List.range k).map T).length (strs ((List.range k).map T)) := by
        have := Row.owned hown
        rw [List.length_map, List.length_range]; exact this
      have hjn := strJoin_any _ _ _ hrow (by rw [List.length_map, List.length_range]; omega) HL.out
      have HJ := Lib.hid hjn
      have HB := Lib.hid hbel
      clear hown hrow hjn hbel
      go_wp2_with fail
      refine HJ.out.mono ?_
      rintro e w2 ⟨rfl, hb2⟩
      have HB2 := Lib.hid (bel_then HB.out hb2)
      clear hb2
      go_wp2_with fail
      go_ret
      exact ⟨rfl, HB2.out⟩
theorem mkJoinU_any (w : World) : Calls Tryz.prog 37 #[.string ⟨#[]⟩, .func (Fn.func 38) #[] #[]] w fun e w' =>
    e = .returned (.func (Fn.func 75) #[] #[.pointer (some ⟨w.heap.size + 1, 0, none⟩), .pointer (some ⟨w.heap.size, 0, none⟩)]) ∧
      w' = (w.alloc (.cells #[.string ⟨#[]⟩] 9)).alloc (.cells #[.func (Fn.func 38) #[] #[]] 77) := by
  go_enter Tryz.func37, Tryz.ntmps37
  go_wp2
  go_ret
  exact ⟨rfl, rfl⟩
set_option maxHeartbeats 4000000 in
set_option maxRecDepth 100000 in
theorem joinedU_any (q n : Nat) (o : Option Addr) (cap : Nat) (c0 : Nat → Int) (c1 : Nat → Bool) (o2 : Nat → Option Addr) (n2 p2 : Nat → Nat) (T : Nat → ByteArray) (w : World) (hn : n ≤ 100000)
    (hel : ∀ i, i < n → ∃ b off, o = some ⟨b, off, none⟩ ∧ b < w.heap.size ∧ w.cell? ⟨b, off + i * 3, none⟩ = some (.int .i64 (c0 i)) ∧ w.cell? ⟨b, off + i * 3 + 1, none⟩ = some (.bool (c1 i)) ∧ w.cell? ⟨b, off + i * 3 + 2, none⟩ = some (.slice (o2 i) (n2 i) (p2 i)))
    (hq0 : w.heap[q]? = some (.cells #[.string ⟨#[]⟩] 9 (0, 0))) (hq1 : w.heap[q + 1]? = some (.cells #[.func (Fn.func 38) #[] #[]] 77 (0, 0)))
    (hF : ∀ i, i < n → ∀ w', Below w.heap.size w w' → Calls Tryz.prog 38 #[.agg #[.int .i64 (c0 i), .bool (c1 i), .slice (o2 i) (n2 i) (p2 i)]] w' fun e w'' => e = .returned (.string (T i)) ∧ Below w'.heap.size w' w'')
    (hl : (catB ((List.range n).map T)).size ≤ 140737488355328) :
    Calls Tryz.prog 75 #[.slice o n cap, .pointer (some ⟨q + 1, 0, none⟩), .pointer (some ⟨q, 0, none⟩)] w fun e w' => e = .returned (.string (catB ((List.range n).map T))) ∧ Below w.heap.size w w' := by
  obtain ⟨i0, hi, hz0, hz1, hz2⟩ := infoStr1
  have HEL := Lib.hid hel
  have HF := Lib.hid hF
  have HL := Lib.hid hl
  have HQ := Lib.hid (And.intro hq0 hq1)
  clear hel hF hl hq0 hq1
  go_enter Tryz.func75, Tryz.ntmps75
  go_wp2_with fail
  go_loopw [5, 10] (fun x i wr => ∃ k : Nat, k ≤ n ∧ i = .int .i64 k ∧ wr.ownsRow w.heap.size 9 1 x k (strs ((List.range k).map T)) ∧ Below w.heap.size w wr) (fun _ i _ => n - (intOf i).toNat)
  case atStart => exact ⟨0, Nat.zero_le _, rfl, World.ownsRow_nil _ _ _ _, Below.refl _ _⟩
  case round =>
    obtain ⟨k, hk, rfl, hown, hbel⟩ := hrel
    have hbs := hbel.size
    obtain ⟨bx0, y0⟩ := cell1_of ((hbel.block _ (get_lt HQ.out.1)).trans HQ.out.1)
    obtain ⟨bx1, y1⟩ := cell1_of ((hbel.block _ (get_lt HQ.out.2)).trans HQ.out.2)
    have hlt1 := get_lt HQ.out.2
    have hlt2 : q + 1 < wr.heap.size := by omega
    have hne2 : ¬ q + 1 = wr.heap.size := by omega
    have hlt3 : q < wr.heap.size := by omega
    have hne3 : ¬ q = wr.heap.size := by omega
    by_cases hkl : k < n
    · have hd : decide ((k : Int) < (n : Int)) = true := by simp; omega
      have hk1 : (0 : Int) ≤ (k : Int) := by omega
      have hk2 : (k : Int) < (n : Int) := by omega
      obtain ⟨b, off, rfl, hlt, z0, z1, z2⟩ := HEL.out k hkl
      rw [← hbel.cell hlt] at z0
      rw [← hbel.cell hlt] at z1
      rw [← hbel.cell hlt] at z2
      have hlt' : b < wr.heap.size := by omega
      have hc := HF.out k hkl
      obtain ⟨g0, hg0⟩ : ∃ d, d = c0 k := ⟨_, rfl⟩
      rw [← hg0] at z0 hc
      clear hg0
      obtain ⟨g1, hg1⟩ : ∃ d, d = c1 k := ⟨_, rfl⟩
      rw [← hg1] at z1 hc
      clear hg1
      obtain ⟨go2, hgo2⟩ : ∃ d, d = o2 k := ⟨_, rfl⟩
      obtain ⟨gn2, hgn2⟩ : ∃ d, d = n2 k := ⟨_, rfl⟩
      obtain ⟨gp2, hgp2⟩ : ∃ d, d = p2 k := ⟨_, rfl⟩
      rw [← hgo2, ← hgn2, ← hgp2] at z2 hc
      clear hgo2 hgn2 hgp2
      have HOWN := Lib.hid hown
      have HB := Lib.hid hbel
      have HC := Lib.hid hc
      clear hown hbel hc
      go_wp2_with fail
      refine (HC.out _ (HB.out.alloc hbs _)).mono ?_
      rintro e w2 ⟨rfl, hb2⟩
      have HB2 := Lib.hid hb2
      clear hb2 bx0 y0 bx1 y1
      go_wp2_with (first
        | (at_builtin; refine wpList_append_own _ rfl _ _ 44 rfl w.heap.size 9 i0 (.string ⟨#[]⟩) 1 16 Tryz.underlying44 hi hz0 hz1 hz2 rfl (by decide) _ k (strs ((List.range k).map T)) rfl ?c0 ⟨w2.heap.size, 0, none⟩ 1 1 [.string (T k)] rfl rfl ?c1 ?c2 ?c3 ?c4 ?c5 ?_)
        | go_in)
      case c0 => exact (owns_below (owns_below HOWN.out ((Below.refl _ _).alloc (Nat.le_refl _) _)) HB2.out).alloc _
      case c1 =>
        intro j u hj
        match j, hj with
        | 0, hj => simp at hj; subst hj; exact Joins.cell_alloc_mark_at _ #[.string (T k)] 9 (0, 0) _ 0 (by simp)
      case c2 => intro u hu; simp at hu; subst hu; rfl
      case c3 => unfold maxLen; omega
      case c4 => omega
      case c5 => have hz2 := HB2.out.size; simp at hz2; simp; omega
      intro v' w4 hown' hgrow _
      have hB1 : Below w.heap.size w w4 := by
        have hz2 := HB2.out.size
        simp at hz2
        refine ((bel_then (HB.out.alloc hbs _) HB2.out).alloc (by omega) _).grown hgrow (by simp; omega) (fun j hj => ?_)
        exact (HOWN.out.lt j hj).1
      have htk : (List.range (k + 1)).map T = (List.range k).map T ++ [T k] := by rw [List.range_succ]; simp
      have hown2 : w4.ownsRow w.heap.size 9 1 v' (k + 1) (strs ((List.range (k + 1)).map T)) := by
        rw [htk]; simpa [strs] using hown'
      have HO := Lib.hid hown2
      have HB4 := Lib.hid hB1
      clear hown' hgrow hown2 hB1 htk z0 z1 z2 HB HB2 HOWN HC hne2 hne3 hlt1 hlt2 hlt3 hlt' hlt
      go_wp2_with fail
      go_roundw
      case rel => exact ⟨k + 1, by omega, by go_num, HO.out, HB4.out⟩
      case measure => simp [intOf]; omega
    · have hkn : k = n := by omega
      subst hkn
      have hd : decide ((k : Int) < (k : Int)) = false := by simp
      have hrow : Row wr u5 ((List.range k).map T).length (strs ((List.range k).map T)) := by
        have := Row.owned hown
        rw [List.length_map, List.length_range]; exact this
      have hjn := strJoin_any _ _ _ hrow (by rw [List.length_map, List.length_range]; omega) HL.out
      have HJ := Lib.hid hjn
      have HB := Lib.hid hbel
      clear hown hrow hjn hbel
      go_wp2_with fail
      refine HJ.out.mono ?_
      rintro e w2 ⟨rfl, hb2⟩
      have HB2 := Lib.hid (bel_then HB.out hb2)
      clear hb2
      go_wp2_with fail
      go_ret
      exact ⟨rfl, HB2.out⟩
theorem mkJoinS_any (w : World) : Calls Tryz.prog 76 #[.string ⟨#[]⟩, .func (Fn.func 77) #[] #[]] w fun e w' =>
    e = .returned (.func (Fn.func 108) #[] #[.pointer (some ⟨w.heap.size + 1, 0, none⟩), .pointer (some ⟨w.heap.size, 0, none⟩)]) ∧
      w' = (w.alloc (.cells #[.string ⟨#[]⟩] 9)).alloc (.cells #[.func (Fn.func 77) #[] #[]] 112) := by
  go_enter Tryz.func76, Tryz.ntmps76
  go_wp2
  go_ret
  exact ⟨rfl, rfl⟩
set_option maxHeartbeats 4000000 in
set_option maxRecDepth 100000 in
theorem joinedS_any (q n : Nat) (o : Option Addr) (cap : Nat) (o0 : Nat → Option Addr) (n0 p0 : Nat → Nat) (c1 : Nat → Int) (o2 : Nat → Option Addr) (n2 p2 : Nat → Nat) (o3 : Nat → Option Addr) (n3 p3 : Nat → Nat) (o4 : Nat → Option Addr) (n4 p4 : Nat → Nat) (T : Nat → ByteArray) (w : World) (hn : n ≤ 100000)
    (hel : ∀ i, i < n → ∃ b off, o = some ⟨b, off, none⟩ ∧ b < w.heap.size ∧ w.cell? ⟨b, off + i * 5, none⟩ = some (.slice (o0 i) (n0 i) (p0 i)) ∧ w.cell? ⟨b, off + i * 5 + 1, none⟩ = some (.int .i64 (c1 i)) ∧ w.cell? ⟨b, off + i * 5 + 2, none⟩ = some (.slice (o2 i) (n2 i) (p2 i)) ∧ w.cell? ⟨b, off + i * 5 + 3, none⟩ = some (.slice (o3 i) (n3 i) (p3 i)) ∧ w.cell? ⟨b, off + i * 5 + 4, none⟩ = some (.slice (o4 i) (n4 i) (p4 i)))
    (hq0 : w.heap[q]? = some (.cells #[.string ⟨#[]⟩] 9 (0, 0))) (hq1 : w.heap[q + 1]? = some (.cells #[.func (Fn.func 77) #[] #[]] 112 (0, 0)))
    (hF : ∀ i, i < n → ∀ w', Below w.heap.size w w' → Calls Tryz.prog 77 #[.agg #[.slice (o0 i) (n0 i) (p0 i), .int .i64 (c1 i), .slice (o2 i) (n2 i) (p2 i), .slice (o3 i) (n3 i) (p3 i), .slice (o4 i) (n4 i) (p4 i)]] w' fun e w'' => e = .returned (.string (T i)) ∧ Below w'.heap.size w' w'')
    (hl : (catB ((List.range n).map T)).size ≤ 140737488355328) :
    Calls Tryz.prog 108 #[.slice o n cap, .pointer (some ⟨q + 1, 0, none⟩), .pointer (some ⟨q, 0, none⟩)] w fun e w' => e = .returned (.string (catB ((List.range n).map T))) ∧ Below w.heap.size w w' := by
  obtain ⟨i0, hi, hz0, hz1, hz2⟩ := infoStr1
  have HEL := Lib.hid hel
  have HF := Lib.hid hF
  have HL := Lib.hid hl
  have HQ := Lib.hid (And.intro hq0 hq1)
  clear hel hF hl hq0 hq1
  go_enter Tryz.func108, Tryz.ntmps108
  go_wp2_with fail
  go_loopw [5, 10] (fun x i wr => ∃ k : Nat, k ≤ n ∧ i = .int .i64 k ∧ wr.ownsRow w.heap.size 9 1 x k (strs ((List.range k).map T)) ∧ Below w.heap.size w wr) (fun _ i _ => n - (intOf i).toNat)
  case atStart => exact ⟨0, Nat.zero_le _, rfl, World.ownsRow_nil _ _ _ _, Below.refl _ _⟩
  case round =>
    obtain ⟨k, hk, rfl, hown, hbel⟩ := hrel
    have hbs := hbel.size
    obtain ⟨bx0, y0⟩ := cell1_of ((hbel.block _ (get_lt HQ.out.1)).trans HQ.out.1)
    obtain ⟨bx1, y1⟩ := cell1_of ((hbel.block _ (get_lt HQ.out.2)).trans HQ.out.2)
    have hlt1 := get_lt HQ.out.2
    have hlt2 : q + 1 < wr.heap.size := by omega
    have hne2 : ¬ q + 1 = wr.heap.size := by omega
    have hlt3 : q < wr.heap.size := by omega
    have hne3 : ¬ q = wr.heap.size := by omega
    by_cases hkl : k < n
    · have hd : decide ((k : Int) < (n : Int)) = true := by simp; omega
      have hk1 : (0 : Int) ≤ (k : Int) := by omega
      have hk2 : (k : Int) < (n : Int) := by omega
      obtain ⟨b, off, rfl, hlt, z0, z1, z2, z3, z4⟩ := HEL.out k hkl
      rw [← hbel.cell hlt] at z0
      rw [← hbel.cell hlt] at z1
      rw [← hbel.cell hlt] at z2
      rw [← hbel.cell hlt] at z3
      rw [← hbel.cell hlt] at z4
      have hlt' : b < wr.heap.size := by omega
      have hc := HF.out k hkl
      obtain ⟨go0, hgo0⟩ : ∃ d, d = o0 k := ⟨_, rfl⟩
      obtain ⟨gn0, hgn0⟩ : ∃ d, d = n0 k := ⟨_, rfl⟩
      obtain ⟨gp0, hgp0⟩ : ∃ d, d = p0 k := ⟨_, rfl⟩
      rw [← hgo0, ← hgn0, ← hgp0] at z0 hc
      clear hgo0 hgn0 hgp0
      obtain ⟨g1, hg1⟩ : ∃ d, d = c1 k := ⟨_, rfl⟩
      rw [← hg1] at z1 hc
      clear hg1
      obtain ⟨go2, hgo2⟩ : ∃ d, d = o2 k := ⟨_, rfl⟩
      obtain ⟨gn2, hgn2⟩ : ∃ d, d = n2 k := ⟨_, rfl⟩
      obtain ⟨gp2, hgp2⟩ : ∃ d, d = p2 k := ⟨_, rfl⟩
      rw [← hgo2, ← hgn2, ← hgp2] at z2 hc
      clear hgo2 hgn2 hgp2
      obtain ⟨go3, hgo3⟩ : ∃ d, d = o3 k := ⟨_, rfl⟩
      obtain ⟨gn3, hgn3⟩ : ∃ d, d = n3 k := ⟨_, rfl⟩
      obtain ⟨gp3, hgp3⟩ : ∃ d, d = p3 k := ⟨_, rfl⟩
      rw [← hgo3, ← hgn3, ← hgp3] at z3 hc
      clear hgo3 hgn3 hgp3
      obtain ⟨go4, hgo4⟩ : ∃ d, d = o4 k := ⟨_, rfl⟩
      obtain ⟨gn4, hgn4⟩ : ∃ d, d = n4 k := ⟨_, rfl⟩
      obtain ⟨gp4, hgp4⟩ : ∃ d, d = p4 k := ⟨_, rfl⟩
      rw [← hgo4, ← hgn4, ← hgp4] at z4 hc
      clear hgo4 hgn4 hgp4
      have HOWN := Lib.hid hown
      have HB := Lib.hid hbel
      have HC := Lib.hid hc
      clear hown hbel hc
      go_wp2_with fail
      refine (HC.out _ (HB.out.alloc hbs _)).mono ?_
      rintro e w2 ⟨rfl, hb2⟩
      have HB2 := Lib.hid hb2
      clear hb2 bx0 y0 bx1 y1
      go_wp2_with (first
        | (at_builtin; refine wpList_append_own _ rfl _ _ 44 rfl w.heap.size 9 i0 (.string ⟨#[]⟩) 1 16 Tryz.underlying44 hi hz0 hz1 hz2 rfl (by decide) _ k (strs ((List.range k).map T)) rfl ?c0 ⟨w2.heap.size, 0, none⟩ 1 1 [.string (T k)] rfl rfl ?c1 ?c2 ?c3 ?c4 ?c5 ?_)
        | go_in)
      case c0 => exact (owns_below (owns_below HOWN.out ((Below.refl _ _).alloc (Nat.le_refl _) _)) HB2.out).alloc _
      case c1 =>
        intro j u hj
        match j, hj with
        | 0, hj => simp at hj; subst hj; exact Joins.cell_alloc_mark_at _ #[.string (T k)] 9 (0, 0) _ 0 (by simp)
      case c2 => intro u hu; simp at hu; subst hu; rfl
      case c3 => unfold maxLen; omega
      case c4 => omega
      case c5 => have hz2 := HB2.out.size; simp at hz2; simp; omega
      intro v' w4 hown' hgrow _
      have hB1 : Below w.heap.size w w4 := by
        have hz2 := HB2.out.size
        simp at hz2
        refine ((bel_then (HB.out.alloc hbs _) HB2.out).alloc (by omega) _).grown hgrow (by simp; omega) (fun j hj => ?_)
        exact (HOWN.out.lt j hj).1
      have htk : (List.range (k + 1)).map T = (List.range k).map T ++ [T k] := by rw [List.range_succ]; simp
      have hown2 : w4.ownsRow w.heap.size 9 1 v' (k + 1) (strs ((List.range (k + 1)).map T)) := by
        rw [htk]; simpa [strs] using hown'
      have HO := Lib.hid hown2
      have HB4 := Lib.hid hB1
      clear hown' hgrow hown2 hB1 htk z0 z1 z2 z3 z4 HB HB2 HOWN HC hne2 hne3 hlt1 hlt2 hlt3 hlt' hlt
      go_wp2_with fail
      go_roundw
      case rel => exact ⟨k + 1, by omega, by go_num, HO.out, HB4.out⟩
      case measure => simp [intOf]; omega
    · have hkn : k = n := by omega
      subst hkn
      have hd : decide ((k : Int) < (k : Int)) = false := by simp
      have hrow : Row wr u5 ((List.range k).map T).length (strs ((List.range k).map T)) := by
        have := Row.owned hown
        rw [List.length_map, List.length_range]; exact this
      have hjn := strJoin_any _ _ _ hrow (by rw [List.length_map, List.length_range]; omega) HL.out
      have HJ := Lib.hid hjn
      have HB := Lib.hid hbel
      clear hown hrow hjn hbel
      go_wp2_with fail
      refine HJ.out.mono ?_
      rintro e w2 ⟨rfl, hb2⟩
      have HB2 := Lib.hid (bel_then HB.out hb2)
      clear hb2
      go_wp2_with fail
      go_ret
      exact ⟨rfl, HB2.out⟩
end Go.Proofs.YtbanmggkfpnalaaGreatDoor
