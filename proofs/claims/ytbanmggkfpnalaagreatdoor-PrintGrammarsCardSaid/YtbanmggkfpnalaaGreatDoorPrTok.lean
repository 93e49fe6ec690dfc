/- print: a token. -/
import Derived.Test.YtbanmggkfpnalaaGreatDoorPrPatA
import Derived.Test.YtbanmggkfpnalaaGreatDoorGSame
set_option linter.unusedVariables false
set_option linter.unusedSimpArgs false
namespace Go.Proofs.YtbanmggkfpnalaaGreatDoor
open Go.RowKit Ru
theorem mkJoinT_any (w : World) : Calls Tryz.prog 35 #[.string ⟨#[]⟩, .func (Fn.func 36) #[] #[]] w fun e w' =>
    e = .returned (.func (Fn.func 73) #[] #[.pointer (some ⟨w.heap.size + 1, 0, none⟩), .pointer (some ⟨w.heap.size, 0, none⟩)]) ∧
      w' = (w.alloc (.cells #[.string ⟨#[]⟩] 9)).alloc (.cells #[.func (Fn.func 36) #[] #[]] 74) := by
  go_enter Tryz.func35, Tryz.ntmps35
  go_wp2
  go_ret
  exact ⟨rfl, rfl⟩
set_option maxHeartbeats 4000000 in
set_option maxRecDepth 100000 in
theorem joinedT_any (q n : Nat) (o : Option Addr) (cap : Nat) (c0 : Nat → ByteArray) (c1 : Nat → Int) (c2 : Nat → Int) (c3 : Nat → Int) (o4 : Nat → Option Addr) (n4 p4 : Nat → Nat) (o5 : Nat → Option Addr) (n5 p5 : Nat → Nat) (T : Nat → ByteArray) (w : World) (hn : n ≤ 100000)
    (hel : ∀ i, i < n → ∃ b off, o = some ⟨b, off, none⟩ ∧ b < w.heap.size ∧ w.cell? ⟨b, off + i * 6, none⟩ = some (.string (c0 i)) ∧ w.cell? ⟨b, off + i * 6 + 1, none⟩ = some (.int .i64 (c1 i)) ∧ w.cell? ⟨b, off + i * 6 + 2, none⟩ = some (.int .i64 (c2 i)) ∧ w.cell? ⟨b, off + i * 6 + 3, none⟩ = some (.int .i64 (c3 i)) ∧ w.cell? ⟨b, off + i * 6 + 4, none⟩ = some (.slice (o4 i) (n4 i) (p4 i)) ∧ w.cell? ⟨b, off + i * 6 + 5, none⟩ = some (.slice (o5 i) (n5 i) (p5 i)))
    (hq0 : w.heap[q]? = some (.cells #[.string ⟨#[]⟩] 9 (0, 0))) (hq1 : w.heap[q + 1]? = some (.cells #[.func (Fn.func 36) #[] #[]] 74 (0, 0)))
    (hF : ∀ i, i < n → ∀ w', Below w.heap.size w w' → Calls Tryz.prog 36 #[.agg #[.string (c0 i), .int .i64 (c1 i), .int .i64 (c2 i), .int .i64 (c3 i), .slice (o4 i) (n4 i) (p4 i), .slice (o5 i) (n5 i) (p5 i)]] w' fun e w'' => e = .returned (.string (T i)) ∧ Below w'.heap.size w' w'')
    (hl : (catB ((List.range n).map T)).size ≤ 140737488355328) :
    Calls Tryz.prog 73 #[.slice o n cap, .pointer (some ⟨q + 1, 0, none⟩), .pointer (some ⟨q, 0, none⟩)] w fun e w' => e = .returned (.string (catB ((List.range n).map T))) ∧ Below w.heap.size w w' := by
  obtain ⟨i0, hi, hz0, hz1, hz2⟩ := infoStr1
  have HEL := Lib.hid hel
  have HF := Lib.hid hF
  have HL := Lib.hid hl
  have HQ := Lib.hid (And.intro hq0 hq1)
  clear hel hF hl hq0 hq1
  go_enter Tryz.func73, Tryz.ntmps73
  go_wp2_with fail
  go_loopw [5, 10] (fun x i wr => ∃ k : Nat, k ≤ n ∧ i = .int .i64 k ∧ wr.ownsRow w.heap.size 9 1 x k (strs ((List.range k).map T)) ∧ Below w.heap.size w wr) (fun _ i _ => n - (intOf i).toNat)
  case atStart => exact ⟨0, Nat.zero_le _, rfl, World.ownsRow_nil _ _ _ _, Below.refl _ _⟩
  case round =>
    obtain ⟨k, hk, rfl, hown, hbel⟩ := hrel
    have hbs := hbel.size
    obtain ⟨bx0, y0⟩ := cell1_of ((hbel.block _ (get_lt HQ.out.1)).trans HQ.out.1)
    obtain ⟨bx1, y1⟩ := cell1_of ((hbel.block _ (get_lt HQ.out.2)).trans HQ.out.2)
    have hlt1 := get_lt HQ.out.2
    have hlt2 : q + 1 < wr.heap.size := by omega
    have hne2 : ¬ q + 1 = wr.heap.size := by omega
    have hlt3 : q < wr.heap.size := by omega
    have hne3 : ¬ q = wr.heap.size := by omega
    by_cases hkl : k < n
    · have hd : decide ((k : Int) < (n : Int)) = true := by simp; omega
      have hk1 : (0 : Int) ≤ (k : Int) := by omega
      have hk2 : (k : Int) < (n : Int) := by omega
      obtain ⟨b, off, rfl, hlt, z0, z1, z2, z3, z4, z5⟩ := HEL.out k hkl
      rw [← hbel.cell hlt] at z0
      rw [← hbel.cell hlt] at z1
      rw [← hbel.cell hlt] at z2
      rw [← hbel.cell hlt] at z3
      rw [← hbel.cell hlt] at z4
      rw [← hbel.cell hlt] at z5
      have hlt' : b < wr.heap.size := by omega
      have hc := HF.out k hkl
      obtain ⟨g0, hg0⟩ : ∃ d, d = c0 k := ⟨_, rfl⟩
      rw [← hg0] at z0 hc
      clear hg0
      obtain ⟨g1, hg1⟩ : ∃ d, d = c1 k := ⟨_, rfl⟩
      rw [← hg1] at z1 hc
      clear hg1
      obtain ⟨g2, hg2⟩ : ∃ d, d = c2 k := ⟨_, rfl⟩
      rw [← hg2] at z2 hc
      clear hg2
      obtain ⟨g3, hg3⟩ : ∃ d, d = c3 k := ⟨_, rfl⟩
      rw [← hg3] at z3 hc
      clear hg3
      obtain ⟨go4, hgo4⟩ : ∃ d, d = o4 k := ⟨_, rfl⟩
      obtain ⟨gn4, hgn4⟩ : ∃ d, d = n4 k := ⟨_, rfl⟩
      obtain ⟨gp4, hgp4⟩ : ∃ d, d = p4 k := ⟨_, rfl⟩
      rw [← hgo4, ← hgn4, ← hgp4] at z4 hc
      clear hgo4 hgn4 hgp4
      obtain ⟨go5, hgo5⟩ : ∃ d, d = o5 k := ⟨_, rfl⟩
      obtain ⟨gn5, hgn5⟩ : ∃ d, d = n5 k := ⟨_, rfl⟩
      obtain ⟨gp5, hgp5⟩ : ∃ d, d = p5 k := ⟨_, rfl⟩
      rw [← hgo5, ← hgn5, ← hgp5] at z5 hc
      clear hgo5 hgn5 hgp5
      have HOWN := Lib.hid hown
      have HB := Lib.hid hbel
      have HC := Lib.hid hc
      clear hown hbel hc
      go_wp2_with fail
      refine (HC.out _ (HB.out.alloc hbs _)).mono ?_
      rintro e w2 ⟨rfl, hb2⟩
      have HB2 := Lib.hid hb2
      clear hb2 bx0 y0 bx1 y1
      go_wp2_with (first
        | (at_builtin; refine wpList_append_own _ rfl _ _ 44 rfl w.heap.size 9 i0 (.string ⟨#[]⟩) 1 16 Tryz.underlying44 hi hz0 hz1 hz2 rfl (by decide) _ k (strs ((List.range k).map T)) rfl ?c0 ⟨w2.heap.size, 0, none⟩ 1 1 [.string (T k)] rfl rfl ?c1 ?c2 ?c3 ?c4 ?c5 ?_)
        | go_in)
      case c0 => exact (owns_below (owns_below HOWN.out ((Below.refl _ _).alloc (Nat.le_refl _) _)) HB2.out).alloc _
      case c1 =>
        intro j u hj
        match j, hj with
        | 0, hj => simp at hj; subst hj; exact Joins.cell_alloc_mark_at _ #[.string (T k)] 9 (0, 0) _ 0 (by simp)
      case c2 => intro u hu; simp at hu; subst hu; rfl
      case c3 => unfold maxLen; omega
      case c4 => omega
      case c5 => have hz2 := HB2.out.size; simp at hz2; simp; omega
      intro v' w4 hown' hgrow _
      have hB1 : Below w.heap.size w w4 := by
        have hz2 := HB2.out.size
        simp at hz2
        refine ((bel_then (HB.out.alloc hbs _) HB2.out).alloc (by omega) _).grown hgrow (by simp; omega) (fun j hj => ?_)
        exact (HOWN.out.lt j hj).1
      have htk : (List.range (k + 1)).map T = (List.range k).map T ++ [T k] := by rw [List.range_succ]; simp
      have hown2 : w4.ownsRow w.heap.size 9 1 v' (k + 1) (strs ((List.range (k + 1)).map T)) := by
        rw [htk]; simpa [strs] using hown'
      have HO := Lib.hid hown2
      have HB4 := Lib.hid hB1
      clear hown' hgrow hown2 hB1 htk z0 z1 z2 z3 z4 z5 HB HB2 HOWN HC hne2 hne3 hlt1 hlt2 hlt3 hlt' hlt
      go_wp2_with fail
      go_roundw
      case rel => exact ⟨k + 1, by omega, by go_num, HO.out, HB4.out⟩
      case measure => simp [intOf]; omega
    · have hkn : k = n := by omega
      subst hkn
      have hd : decide ((k : Int) < (k : Int)) = false := by simp
      have hrow : Row wr u5 ((List.range k).map T).length (strs ((List.range k).map T)) := by
        have := Row.owned hown
        rw [List.length_map, List.length_range]; exact this
      have hjn := strJoin_any _ _ _ hrow (by rw [List.length_map, List.length_range]; omega) HL.out
      have HJ := Lib.hid hjn
      have HB := Lib.hid hbel
      clear hown hrow hjn hbel
      go_wp2_with fail
      refine HJ.out.mono ?_
      rintro e w2 ⟨rfl, hb2⟩
      have HB2 := Lib.hid (bel_then HB.out hb2)
      clear hb2
      go_wp2_with fail
      go_ret
      exact ⟨rfl, HB2.out⟩
theorem mkJoinU_any (w : World) : Calls Tryz.prog 37 #[.string ⟨#[]⟩, .func (Fn.func 38) #[] #[]] w fun e w' =>
    e = .returned (.func (Fn.func 75) #[] #[.pointer (some ⟨w.heap.size + 1, 0, none⟩), .pointer (some ⟨w.heap.size, 0, none⟩)]) ∧
      w' = (w.alloc (.cells #[.string ⟨#[]⟩] 9)).alloc (.cells #[.func (Fn.func 38) #[] #[]] 77) := by
  go_enter Tryz.func37, Tryz.ntmps37
  go_wp2
  go_ret
  exact ⟨rfl, rfl⟩
set_option maxHeartbeats 4000000 in
set_option maxRecDepth 100000 in
theorem joinedU_any (q n : Nat) (o : Option Addr) (cap : Nat) (c0 : Nat → Int) (c1 : Nat → Bool) (o2 : Nat → Option Addr) (n2 p2 : Nat → Nat) (T : Nat → ByteArray) (w : World) (hn : n ≤ 100000)
    (hel : ∀ i, i < n → ∃ b off, o = some ⟨b, off, none⟩ ∧ b < w.heap.size ∧ w.cell? ⟨b, off + i * 3, none⟩ = some (.int .i64 (c0 i)) ∧ w.cell? ⟨b, off + i * 3 + 1, none⟩ = some (.bool (c1 i)) ∧ w.cell? ⟨b, off + i * 3 + 2, none⟩ = some (.slice (o2 i) (n2 i) (p2 i)))
    (hq0 : w.heap[q]? = some (.cells #[.string ⟨#[]⟩] 9 (0, 0))) (hq1 : w.heap[q + 1]? = some (.cells #[.func (Fn.func 38) #[] #[]] 77 (0, 0)))
    (hF : ∀ i, i < n → ∀ w', Below w.heap.size w w' → Calls Tryz.prog 38 #[.agg #[.int .i64 (c0 i), .bool (c1 i), .slice (o2 i) (n2 i) (p2 i)]] w' fun e w'' => e = .returned (.string (T i)) ∧ Below w'.heap.size w' w'')
    (hl : (catB ((List.range n).map T)).size ≤ 140737488355328) :
    Calls Tryz.prog 75 #[.slice o n cap, .pointer (some ⟨q + 1, 0, none⟩), .pointer (some ⟨q, 0, none⟩)] w fun e w' => e = .returned (.string (catB ((List.range n).map T))) ∧ Below w.heap.size w w' := by
  obtain ⟨i0, hi, hz0, hz1, hz2⟩ := infoStr1
  have HEL := Lib.hid hel
  have HF := Lib.hid hF
  have HL := Lib.hid hl
  have HQ := Lib.hid (And.intro hq0 hq1)
  clear hel hF hl hq0 hq1
  go_enter Tryz.func75, Tryz.ntmps75
  go_wp2_with fail
  go_loopw [5, 10] (fun x i wr => ∃ k : Nat, k ≤ n ∧ i = .int .i64 k ∧ wr.ownsRow w.heap.size 9 1 x k (strs ((List.range k).map T)) ∧ Below w.heap.size w wr) (fun _ i _ => n - (intOf i).toNat)
  case atStart => exact ⟨0, Nat.zero_le _, rfl, World.ownsRow_nil _ _ _ _, Below.refl _ _⟩
  case round =>
    obtain ⟨k, hk, rfl, hown, hbel⟩ := hrel
    have hbs := hbel.size
    obtain ⟨bx0, y0⟩ := cell1_of ((hbel.block _ (get_lt HQ.out.1)).trans HQ.out.1)
    obtain ⟨bx1, y1⟩ := cell1_of ((hbel.block _ (get_lt HQ.out.2)).trans HQ.out.2)
    have hlt1 := get_lt HQ.out.2
    have hlt2 : q + 1 < wr.heap.size := by omega
    have hne2 : ¬ q + 1 = wr.heap.size := by omega
    have hlt3 : q < wr.heap.size := by omega
    have hne3 : ¬ q = wr.heap.size := by omega
    by_cases hkl : k < n
    · have hd : decide ((k : Int) < (n : Int)) = true := by simp; omega
      have hk1 : (0 : Int) ≤ (k : Int) := by omega
      have hk2 : (k : Int) < (n : Int) := by omega
      obtain ⟨b, off, rfl, hlt, z0, z1, z2⟩ := HEL.out k hkl
      rw [← hbel.cell hlt] at z0
      rw [← hbel.cell hlt] at z1
      rw [← hbel.cell hlt] at z2
      have hlt' : b < wr.heap.size := by omega
      have hc := HF.out k hkl
      obtain ⟨g0, hg0⟩ : ∃ d, d = c0 k := ⟨_, rfl⟩
      rw [← hg0] at z0 hc
      clear hg0
      obtain ⟨g1, hg1⟩ : ∃ d, d = c1 k := ⟨_, rfl⟩
      rw [← hg1] at z1 hc
      clear hg1
      obtain ⟨go2, hgo2⟩ : ∃ d, d = o2 k := ⟨_, rfl⟩
      obtain ⟨gn2, hgn2⟩ : ∃ d, d = n2 k := ⟨_, rfl⟩
      obtain ⟨gp2, hgp2⟩ : ∃ d, d = p2 k := ⟨_, rfl⟩
      rw [← hgo2, ← hgn2, ← hgp2] at z2 hc
      clear hgo2 hgn2 hgp2
      have HOWN := Lib.hid hown
      have HB := Lib.hid hbel
      have HC := Lib.hid hc
      clear hown hbel hc
      go_wp2_with fail
      refine (HC.out _ (HB.out.alloc hbs _)).mono ?_
      rintro e w2 ⟨rfl, hb2⟩
      have HB2 := Lib.hid hb2
      clear hb2 bx0 y0 bx1 y1
      go_wp2_with (first
        | (at_builtin; refine wpList_append_own _ rfl _ _ 44 rfl w.heap.size 9 i0 (.string ⟨#[]⟩) 1 16 Tryz.underlying44 hi hz0 hz1 hz2 rfl (by decide) _ k (strs ((List.range k).map T)) rfl ?c0 ⟨w2.heap.size, 0, none⟩ 1 1 [.string (T k)] rfl rfl ?c1 ?c2 ?c3 ?c4 ?c5 ?_)
        | go_in)
      case c0 => exact (owns_below (owns_below HOWN.out ((Below.refl _ _).alloc (Nat.le_refl _) _)) HB2.out).alloc _
      case c1 =>
        intro j u hj
        match j, hj with
        | 0, hj => simp at hj; subst hj; exact Joins.cell_alloc_mark_at _ #[.string (T k)] 9 (0, 0) _ 0 (by simp)
      case c2 => intro u hu; simp at hu; subst hu; rfl
      case c3 => unfold maxLen; omega
      case c4 => omega
      case c5 => have hz2 := HB2.out.size; simp at hz2; simp; omega
      intro v' w4 hown' hgrow _
      have hB1 : Below w.heap.size w w4 := by
        have hz2 := HB2.out.size
        simp at hz2
        refine ((bel_then (HB.out.alloc hbs _) HB2.out).alloc (by omega) _).grown hgrow (by simp; omega) (fun j hj => ?_)
        exact (HOWN.out.lt j hj).1
      have htk : (List.range (k + 1)).map T = (List.range k).map T ++ [T k] := by rw [List.range_succ]; simp
      have hown2 : w4.ownsRow w.heap.size 9 1 v' (k + 1) (strs ((List.range (k + 1)).map T)) := by
        rw [htk]; simpa [strs] using hown'
      have HO := Lib.hid hown2
      have HB4 := Lib.hid hB1
      clear hown' hgrow hown2 hB1 htk z0 z1 z2 HB HB2 HOWN HC hne2 hne3 hlt1 hlt2 hlt3 hlt' hlt
      go_wp2_with fail
      go_roundw
      case rel => exact ⟨k + 1, by omega, by go_num, HO.out, HB4.out⟩
      case measure => simp [intOf]; omega
    · have hkn : k = n := by omega
      subst hkn
      have hd : decide ((k : Int) < (k : Int)) = false := by simp
      have hrow : Row wr u5 ((List.range k).map T).length (strs ((List.range k).map T)) := by
        have := Row.owned hown
        rw [List.length_map, List.length_range]; exact this
      have hjn := strJoin_any _ _ _ hrow (by rw [List.length_map, List.length_range]; omega) HL.out
      have HJ := Lib.hid hjn
      have HB := Lib.hid hbel
      clear hown hrow hjn hbel
      go_wp2_with fail
      refine HJ.out.mono ?_
      rintro e w2 ⟨rfl, hb2⟩
      have HB2 := Lib.hid (bel_then HB.out hb2)
      clear hb2
      go_wp2_with fail
      go_ret
      exact ⟨rfl, HB2.out⟩
theorem mkJoinS_any (w : World) : Calls Tryz.prog 76 #[.string ⟨#[]⟩, .func (Fn.func 77) #[] #[]] w fun e w' =>
    e = .returned (.func (Fn.func 108) #[] #[.pointer (some ⟨w.heap.size + 1, 0, none⟩), .pointer (some ⟨w.heap.size, 0, none⟩)]) ∧
      w' = (w.alloc (.cells #[.string ⟨#[]⟩] 9)).alloc (.cells #[.func (Fn.func 77) #[] #[]] 112) := by
  go_enter Tryz.func76, Tryz.ntmps76
  go_wp2
  go_ret
  exact ⟨rfl, rfl⟩
set_option maxHeartbeats 4000000 in
set_option maxRecDepth 100000 in
theorem joinedS_any (q n : Nat) (o : Option Addr) (cap : Nat) (o0 : Nat → Option Addr) (n0 p0 : Nat → Nat) (c1 : Nat → Int) (o2 : Nat → Option Addr) (n2 p2 : Nat → Nat) (o3 : Nat → Option Addr) (n3 p3 : Nat → Nat) (o4 : Nat → Option Addr) (n4 p4 : Nat → Nat) (T : Nat → ByteArray) (w : World) (hn : n ≤ 100000)
    (hel : ∀ i, i < n → ∃ b off, o = some ⟨b, off, none⟩ ∧ b < w.heap.size ∧ w.cell? ⟨b, off + i * 5, none⟩ = some (.slice (o0 i) (n0 i) (p0 i)) ∧ w.cell? ⟨b, off + i * 5 + 1, none⟩ = some (.int .i64 (c1 i)) ∧ w.cell? ⟨b, off + i * 5 + 2, none⟩ = some (.slice (o2 i) (n2 i) (p2 i)) ∧ w.cell? ⟨b, off + i * 5 + 3, none⟩ = some (.slice (o3 i) (n3 i) (p3 i)) ∧ w.cell? ⟨b, off + i * 5 + 4, none⟩ = some (.slice (o4 i) (n4 i) (p4 i)))
    (hq0 : w.heap[q]? = some (.cells #[.string ⟨#[]⟩] 9 (0, 0))) (hq1 : w.heap[q + 1]? = some (.cells #[.func (Fn.func 77) #[] #[]] 112 (0, 0)))
    (hF : ∀ i, i < n → ∀ w', Below w.heap.size w w' → Calls Tryz.prog 77 #[.agg #[.slice (o0 i) (n0 i) (p0 i), .int .i64 (c1 i), .slice (o2 i) (n2 i) (p2 i), .slice (o3 i) (n3 i) (p3 i), .slice (o4 i) (n4 i) (p4 i)]] w' fun e w'' => e = .returned (.string (T i)) ∧ Below w'.heap.size w' w'')
    (hl : (catB ((List.range n).map T)).size ≤ 140737488355328) :
    Calls Tryz.prog 108 #[.slice o n cap, .pointer (some ⟨q + 1, 0, none⟩), .pointer (some ⟨q, 0, none⟩)] w fun e w' => e = .returned (.string (catB ((List.range n).map T))) ∧ Below w.heap.size w w' := by
  obtain ⟨i0, hi, hz0, hz1, hz2⟩ := infoStr1
  have HEL := Lib.hid hel
  have HF := Lib.hid hF
  have HL := Lib.hid hl
  have HQ := Lib.hid (And.intro hq0 hq1)
  clear hel hF hl hq0 hq1
  go_enter Tryz.func108, Tryz.ntmps108
  go_wp2_with fail
  go_loopw [5, 10] (fun x i wr => ∃ k : Nat, k ≤ n ∧ i = .int .i64 k ∧ wr.ownsRow w.heap.size 9 1 x k (strs ((List.range k).map T)) ∧ Below w.heap.size w wr) (fun _ i _ => n - (intOf i).toNat)
  case atStart => exact ⟨0, Nat.zero_le _, rfl, World.ownsRow_nil _ _ _ _, Below.refl _ _⟩
  case round =>
    obtain ⟨k, hk, rfl, hown, hbel⟩ := hrel
    have hbs := hbel.size
    obtain ⟨bx0, y0⟩ := cell1_of ((hbel.block _ (get_lt HQ.out.1)).trans HQ.out.1)
    obtain ⟨bx1, y1⟩ := cell1_of ((hbel.block _ (get_lt HQ.out.2)).trans HQ.out.2)
    have hlt1 := get_lt HQ.out.2
    have hlt2 : q + 1 < wr.heap.size := by omega
    have hne2 : ¬ q + 1 = wr.heap.size := by omega
    have hlt3 : q < wr.heap.size := by omega
    have hne3 : ¬ q = wr.heap.size := by omega
    by_cases hkl : k < n
    · have hd : decide ((k : Int) < (n : Int)) = true := by simp; omega
      have hk1 : (0 : Int) ≤ (k : Int) := by omega
      have hk2 : (k : Int) < (n : Int) := by omega
      obtain ⟨b, off, rfl, hlt, z0, z1, z2, z3, z4⟩ := HEL.out k hkl
      rw [← hbel.cell hlt] at z0
      rw [← hbel.cell hlt] at z1
      rw [← hbel.cell hlt] at z2
      rw [← hbel.cell hlt] at z3
      rw [← hbel.cell hlt] at z4
      have hlt' : b < wr.heap.size := by omega
      have hc := HF.out k hkl
      obtain ⟨go0, hgo0⟩ : ∃ d, d = o0 k := ⟨_, rfl⟩
      obtain ⟨gn0, hgn0⟩ : ∃ d, d = n0 k := ⟨_, rfl⟩
      obtain ⟨gp0, hgp0⟩ : ∃ d, d = p0 k := ⟨_, rfl⟩
      rw [← hgo0, ← hgn0, ← hgp0] at z0 hc
      clear hgo0 hgn0 hgp0
      obtain ⟨g1, hg1⟩ : ∃ d, d = c1 k := ⟨_, rfl⟩
      rw [← hg1] at z1 hc
      clear hg1
      obtain ⟨go2, hgo2⟩ : ∃ d, d = o2 k := ⟨_, rfl⟩
      obtain ⟨gn2, hgn2⟩ : ∃ d, d = n2 k := ⟨_, rfl⟩
      obtain ⟨gp2, hgp2⟩ : ∃ d, d = p2 k := ⟨_, rfl⟩
      rw [← hgo2, ← hgn2, ← hgp2] at z2 hc
      clear hgo2 hgn2 hgp2
      obtain ⟨go3, hgo3⟩ : ∃ d, d = o3 k := ⟨_, rfl⟩
      obtain ⟨gn3, hgn3⟩ : ∃ d, d = n3 k := ⟨_, rfl⟩
      obtain ⟨gp3, hgp3⟩ : ∃ d, d = p3 k := ⟨_, rfl⟩
      rw [← hgo3, ← hgn3, ← hgp3] at z3 hc
      clear hgo3 hgn3 hgp3
      obtain ⟨go4, hgo4⟩ : ∃ d, d = o4 k := ⟨_, rfl⟩
      obtain ⟨gn4, hgn4⟩ : ∃ d, d = n4 k := ⟨_, rfl⟩
      obtain ⟨gp4, hgp4⟩ : ∃ d, d = p4 k := ⟨_, rfl⟩
      rw [← hgo4, ← hgn4, ← hgp4] at z4 hc
      clear hgo4 hgn4 hgp4
      have HOWN := Lib.hid hown
      have HB := Lib.hid hbel
      have HC := Lib.hid hc
      clear hown hbel hc
      go_wp2_with fail
      refine (HC.out _ (HB.out.alloc hbs _)).mono ?_
      rintro e w2 ⟨rfl, hb2⟩
      have HB2 := Lib.hid hb2
      clear hb2 bx0 y0 bx1 y1
      go_wp2_with (first
        | (at_builtin; refine wpList_append_own _ rfl _ _ 44 rfl w.heap.size 9 i0 (.string ⟨#[]⟩) 1 16 Tryz.underlying44 hi hz0 hz1 hz2 rfl (by decide) _ k (strs ((List.range k).map T)) rfl ?c0 ⟨w2.heap.size, 0, none⟩ 1 1 [.string (T k)] rfl rfl ?c1 ?c2 ?c3 ?c4 ?c5 ?_)
        | go_in)
      case c0 => exact (owns_below (owns_below HOWN.out ((Below.refl _ _).alloc (Nat.le_refl _) _)) HB2.out).alloc _
      case c1 =>
        intro j u hj
        match j, hj with
        | 0, hj => simp at hj; subst hj; exact Joins.cell_alloc_mark_at _ #[.string (T k)] 9 (0, 0) _ 0 (by simp)
      case c2 => intro u hu; simp at hu; subst hu; rfl
      case c3 => unfold maxLen; omega
      case c4 => omega
      case c5 => have hz2 := HB2.out.size; simp at hz2; simp; omega
      intro v' w4 hown' hgrow _
      have hB1 : Below w.heap.size w w4 := by
        have hz2 := HB2.out.size
        simp at hz2
        refine ((bel_then (HB.out.alloc hbs _) HB2.out).alloc (by omega) _).grown hgrow (by simp; omega) (fun j hj => ?_)
        exact (HOWN.out.lt j hj).1
      have htk : (List.range (k + 1)).map T = (List.range k).map T ++ [T k] := by rw [List.range_succ]; simp
      have hown2 : w4.ownsRow w.heap.size 9 1 v' (k + 1) (strs ((List.range (k + 1)).map T)) := by
        rw [htk]; simpa [strs] using hown'
      have HO := Lib.hid hown2
      have HB4 := Lib.hid hB1
      clear hown' hgrow hown2 hB1 htk z0 z1 z2 z3 z4 HB HB2 HOWN HC hne2 hne3 hlt1 hlt2 hlt3 hlt' hlt
      go_wp2_with fail
      go_roundw
      case rel => exact ⟨k + 1, by omega, by go_num, HO.out, HB4.out⟩
      case measure => simp [intOf]; omega
    · have hkn : k = n := by omega
      subst hkn
      have hd : decide ((k : Int) < (k : Int)) = false := by simp
      have hrow : Row wr u5 ((List.range k).map T).length (strs ((List.range k).map T)) := by
        have := Row.owned hown
        rw [List.length_map, List.length_range]; exact this
      have hjn := strJoin_any _ _ _ hrow (by rw [List.length_map, List.length_range]; omega) HL.out
      have HJ := Lib.hid hjn
      have HB := Lib.hid hbel
      clear hown hrow hjn hbel
      go_wp2_with fail
      refine HJ.out.mono ?_
      rintro e w2 ⟨rfl, hb2⟩
      have HB2 := Lib.hid (bel_then HB.out hb2)
      clear hb2
      go_wp2_with fail
      go_ret
      exact ⟨rfl, HB2.out⟩
end Go.Proofs.YtbanmggkfpnalaaGreatDoor

namespace Go.Proofs.YtbanmggkfpnalaaGreatDoor
open Go.RowKit Ru

def decB (c : Int) : ByteArray := ⟨(Lib.decDigits c.toNat).toArray⟩
theorem decB_size {c : Int} (h : 0 ≤ c ∧ c ≤ 31) : (decB c).size ≤ 2 := by
  have : ∀ n : Nat, n ≤ 31 → (Lib.decDigits n).length ≤ 2 := by decide +kernel
  show (Lib.decDigits c.toNat).toArray.size ≤ 2
  rw [List.size_toArray]
  exact this _ (by omega)
theorem itoa_any (c : Int) (w : World) (h : 0 ≤ c ∧ c ≤ 31) : Calls Tryz.prog 74 #[.int .i64 c] w fun e w' => e = .returned (.string (decB c)) ∧ w' = w := by
  obtain ⟨n, rfl⟩ : ∃ n : Nat, c = n := ⟨c.toNat, by omega⟩
  exact Tryz.strconv_Itoa_small n (by omega) w
def stepB (s : ST) : ByteArray := if 0 < s.calls.length then ((⟨#[32, 94, 32]⟩ ++ brB s.calls) ++ ⟨#[32]⟩) ++ s.p.text else ⟨#[32]⟩ ++ s.p.text
structure StOk (s : ST) : Prop where
  sh : Shorts s.calls
  ok : s.p.Okt
  sz : s.p.size ≤ 60
theorem stepB_size {s : ST} (h : StOk s) : (stepB s).size ≤ 190000000 := by
  have a := pt_size s.p.size s.p (Nat.le_refl _) h.ok
  have b := h.sh.br
  have c := h.sz
  have z1 : (⟨#[32, 94, 32]⟩ : ByteArray).size = 3 := rfl
  have z2 : (⟨#[32]⟩ : ByteArray).size = 1 := rfl
  unfold stepB
  split <;> simp only [ByteArray.size_append] <;> omega
set_option maxHeartbeats 4000000 in
set_option maxRecDepth 100000 in
theorem prStep_any (s : ST) (cv nv ev lv : Value) (w : World) (hs : StOk s) (hc : Row w cv s.calls.length (strs s.calls)) (hp : PtIs w s.p nv ev lv) :
    Calls Tryz.prog 77 #[.agg #[cv, .int .i64 s.p.kind, nv, ev, lv]] w fun x w' => x = .returned (.string (stepB s)) ∧ Below w.heap.size w w' := by
  have h1 := fun w' (hb : Below w.heap.size w w') => braces_any cv s.calls w' (hc.below hb) hs.sh
  have h2 := fun w' (hb : Below w.heap.size w w') => pat_any s.p nv ev lv w' (by have := hs.sz; omega) hs.ok (hp.moved hb)
  have hsb : stepB s = if 0 < s.calls.length then ((⟨#[32, 94, 32]⟩ ++ brB s.calls) ++ ⟨#[32]⟩) ++ s.p.text else ⟨#[32]⟩ ++ s.p.text := rfl
  have a := pt_size s.p.size s.p (Nat.le_refl _) hs.ok
  have b := hs.sh.br
  have c := hs.sz
  obtain ⟨o0, c0, rfl, -⟩ := hc
  obtain ⟨⟨o1, q1, rfl⟩, ⟨o3, q3, rfl⟩, ⟨o2, q2, rfl⟩⟩ := hp.form
  obtain ⟨n, hn⟩ : ∃ n, n = s.calls.length := ⟨_, rfl⟩
  obtain ⟨B, hB⟩ : ∃ B, B = brB s.calls := ⟨_, rfl⟩
  obtain ⟨t, ht⟩ : ∃ t, t = s.p.text := ⟨_, rfl⟩
  obtain ⟨k, hk⟩ : ∃ k, k = s.p.kind := ⟨_, rfl⟩
  obtain ⟨x1, hx1⟩ : ∃ k, k = s.p.names.length := ⟨_, rfl⟩
  obtain ⟨x2, hx2⟩ : ∃ k, k = s.p.ends.length := ⟨_, rfl⟩
  obtain ⟨x3, hx3⟩ : ∃ k, k = s.p.parts.length := ⟨_, rfl⟩
  rw [← hn, ← hB] at h1
  rw [← ht, ← hk, ← hx1, ← hx2, ← hx3] at h2
  rw [← hn, ← hB, ← ht] at hsb
  rw [← ht] at a
  rw [← hB] at b
  rw [← hn, ← hk, ← hx1, ← hx2, ← hx3]
  have HS := Lib.hid hsb
  have H1 := Lib.hid h1
  have H2 := Lib.hid h2
  have hu0 : ¬ 9223372036854775807 < 3 + B.size := by omega
  have hu1 : ¬ 9223372036854775807 < 3 + B.size + 1 := by omega
  have hu2 : ¬ 9223372036854775807 < 3 + B.size + 1 + t.size := by omega
  have hu3 : ¬ 9223372036854775807 < 1 + t.size := by omega
  clear hsb h1 h2 hn hB ht hk hx1 hx2 hx3 hp hs a b c
  by_cases hc : 0 < n
  · have d : decide (0 < n) = true := by simpa using hc
    have HX := Lib.hid (HS.out.trans (if_pos hc))
    clear HS hc
    obtain ⟨W, hW⟩ : ∃ W, W = w.alloc (.cells #[.slice o0 n c0, .int .i64 k, .slice o1 x1 q1, .slice o3 x2 q3, .slice o2 x3 q2] 66) := ⟨_, rfl⟩
    have hbW : Below w.heap.size w W := by rw [hW]; exact (Below.refl _ _).alloc (Nat.le_refl _) _
    have hbx : W.heap[w.heap.size]? = some (.cells #[.slice o0 n c0, .int .i64 k, .slice o1 x1 q1, .slice o3 x2 q3, .slice o2 x3 q2] 66 (0, 0)) := by rw [hW]; exact heap_alloc_new w _
    obtain ⟨ι, K, hne, hkb, hks⟩ := kept_family W
    have hcell : ∀ i, (K i).cell? ⟨w.heap.size, 0, none⟩ = some (.slice o0 n c0) ∧ (K i).cell? ⟨w.heap.size, 1, none⟩ = some (.int .i64 k) ∧ (K i).cell? ⟨w.heap.size, 2, none⟩ = some (.slice o1 x1 q1) ∧ (K i).cell? ⟨w.heap.size, 3, none⟩ = some (.slice o3 x2 q3) ∧ (K i).cell? ⟨w.heap.size, 4, none⟩ = some (.slice o2 x3 q2) := fun i => by
      have := bel_get (hkb i) hbx
      simp [World.cell?, this]
    have KB := Lib.hid hkb
    have kS := hks _ (Below.refl _ _).drew
    have HBW := Lib.hid hbW
    have HW := Lib.hid hW
    have HA := Lib.hid (fun i => calls_kept hkb hks (i := i) (H1.out (K i) (bel_then hbW (hkb i))))
    have HP := Lib.hid (fun i => calls_kept hkb hks (i := i) (H2.out (K i) (bel_then hbW (hkb i))))
    have j0 : ∀ i, (K i).cell? ⟨w.heap.size, 0, none⟩ = some (.slice o0 n c0) := fun i => (hcell i).1
    have j1 : ∀ i, (K i).cell? ⟨w.heap.size, 1, none⟩ = some (.int .i64 k) := fun i => (hcell i).2.1
    have j2 : ∀ i, (K i).cell? ⟨w.heap.size, 2, none⟩ = some (.slice o1 x1 q1) := fun i => (hcell i).2.2.1
    have j3 : ∀ i, (K i).cell? ⟨w.heap.size, 3, none⟩ = some (.slice o3 x2 q3) := fun i => (hcell i).2.2.2.1
    have j4 : ∀ i, (K i).cell? ⟨w.heap.size, 4, none⟩ = some (.slice o2 x3 q2) := fun i => (hcell i).2.2.2.2
    clear hW hbW hbx hkb hks hcell
    go_enter Tryz.func77, Tryz.ntmps77
    go_upto_region 2 with (fail)
    rw [← HW.out]
    refine region_kept K (by kernel_rfl) (by kernel_rfl) kS ?_
    repeat (go_big_quiet_step (with_reducible first | exact HA.out _ | exact HP.out _))
    refine wpQuiet_nil ?_
    rintro _ ⟨iw, rfl⟩
    have HB6 := Lib.hid (bel_then HBW.out (KB.out iw))
    go_wp2_with fail
    go_ret
    exact ⟨by rw [HX.out]; rfl, HB6.out⟩
  · have d : decide (0 < n) = false := by simpa using hc
    have HX := Lib.hid (HS.out.trans (if_neg hc))
    clear HS hc
    go_enter Tryz.func77, Tryz.ntmps77
    go_wp2_with fail
    refine (H2.out _ (bel_new (Below.refl _ _) _)).mono ?_
    rintro x w2 ⟨rfl, hb2⟩
    have HB2 := Lib.hid (bel_then (bel_new (Below.refl w.heap.size w) _) hb2)
    clear hb2
    go_wp2_with fail
    go_ret
    exact ⟨by rw [HX.out]; rfl, HB2.out⟩
end Go.Proofs.YtbanmggkfpnalaaGreatDoor

namespace Go.Proofs.YtbanmggkfpnalaaGreatDoor
open Go.RowKit Ru

theorem two_world (k w : World) (o1 o2 : Obj) (h : Below w.heap.size w k) :
    Below w.heap.size w ((k.alloc o1).alloc o2) ∧ ((k.alloc o1).alloc o2).heap[k.heap.size]? = some o1 ∧ ((k.alloc o1).alloc o2).heap[k.heap.size + 1]? = some o2 := by
  have hs := h.size
  refine ⟨(h.alloc hs _).alloc (by simp; omega) _, ?_, ?_⟩
  · rw [Below.heap_alloc _ _ _ (by simp)]
    exact heap_alloc_new k _
  · have := heap_alloc_new (k.alloc o1) o2
    simpa using this
theorem range_getD {α : Type} (d : α) : ∀ l : List α, (List.range l.length).map (fun i => l.getD i d) = l := by
  intro l
  apply List.ext_getElem?
  intro i
  rw [List.getElem?_map]
  by_cases h : i < l.length
  · rw [List.getElem?_range h]; simp [List.getD, h]
  · rw [List.getElem?_eq_none (by simp; omega), List.getElem?_eq_none (by omega)]; rfl
theorem joinSteps_any (l : List ST) (q : Nat) (v : Value) (w : World) (hok : ∀ s ∈ l, StOk s) (hl : l.length ≤ 100) (hv : StsAre w v l)
    (hq0 : w.heap[q]? = some (.cells #[.string ⟨#[]⟩] 9 (0, 0))) (hq1 : w.heap[q + 1]? = some (.cells #[.func (Fn.func 77) #[] #[]] 112 (0, 0))) :
    Calls Tryz.prog 108 #[v, .pointer (some ⟨q + 1, 0, none⟩), .pointer (some ⟨q, 0, none⟩)] w fun e w' => e = .returned (.string (catB (l.map stepB))) ∧ Below w.heap.size w w' := by
  obtain ⟨o, cap, co, cn, cc, kf, no, nn, nc, eo, en, ec, lo, ln, lc, rfl, hall⟩ := hv.all
  have hsz : (catB (l.map stepB)).size ≤ 140737488355328 := by
    have := catB_le 190000000 (l.map stepB) (fun y hy => by
      obtain ⟨x, hx, rfl⟩ := List.mem_map.1 hy
      exact stepB_size (hok x hx))
    rw [List.length_map] at this
    have : 190000000 * l.length ≤ 190000000 * 100 := Nat.mul_le_mul_left _ hl
    omega
  have hr : (List.range l.length).map (fun i => (l.map stepB).getD i ⟨#[]⟩) = l.map stepB := by
    have := range_getD (⟨#[]⟩ : ByteArray) (l.map stepB)
    rwa [List.length_map] at this
  have key := joinedS_any q l.length o cap co cn cc kf no nn nc eo en ec lo ln lc (fun i => (l.map stepB).getD i ⟨#[]⟩) w (by omega) (fun i hi => by
      obtain ⟨_, _, _, b, off, ho, hb, c0, c1, c2, c3, c4⟩ := hall i l[i] (List.getElem?_eq_getElem hi)
      exact ⟨b, off, ho, hb, c0, c1, c2, c3, c4⟩) hq0 hq1 (fun i hi w' hb => by
      obtain ⟨r1, k1, p1, _⟩ := hall i l[i] (List.getElem?_eq_getElem hi)
      have := prStep_any l[i] _ _ _ _ w' (hok _ (List.getElem_mem hi)) (r1.below hb) (p1.moved hb)
      rw [← k1] at this
      have e : (l.map stepB).getD i ⟨#[]⟩ = stepB l[i] := by simp [List.getD, hi]
      simp only [e]
      exact this) (by rw [hr]; exact hsz)
  rw [hr] at key
  exact key
structure RuOk (r : RU) : Prop where
  cl : 0 ≤ r.cls ∧ r.cls ≤ 31
  ln : r.steps.length ≤ 100
  st : ∀ s ∈ r.steps, StOk s
def ruleB (r : RU) : ByteArray := ((if r.free = true then (⟨#[114, 117, 108, 101, 32]⟩ ++ decB r.cls) ++ ⟨#[32, 102, 114, 101, 101]⟩ else ⟨#[114, 117, 108, 101, 32]⟩ ++ decB r.cls) ++ catB (r.steps.map stepB)) ++ ⟨#[10]⟩
theorem steps_size {r : RU} (h : RuOk r) : (catB (r.steps.map stepB)).size ≤ 19000000000 := by
  have := catB_le 190000000 (r.steps.map stepB) (fun y hy => by
    obtain ⟨x, hx, rfl⟩ := List.mem_map.1 hy
    exact stepB_size (h.st x hx))
  rw [List.length_map] at this
  have : 190000000 * r.steps.length ≤ 190000000 * 100 := Nat.mul_le_mul_left _ h.ln
  omega
theorem ruleB_size {r : RU} (h : RuOk r) : (ruleB r).size ≤ 19000000020 := by
  have a := steps_size h
  have b := decB_size h.cl
  have z1 : (⟨#[114, 117, 108, 101, 32]⟩ : ByteArray).size = 5 := rfl
  have z2 : (⟨#[32, 102, 114, 101, 101]⟩ : ByteArray).size = 5 := rfl
  have z3 : (⟨#[10]⟩ : ByteArray).size = 1 := rfl
  unfold ruleB
  split <;> simp only [ByteArray.size_append] <;> omega
set_option maxHeartbeats 4000000 in
set_option maxRecDepth 100000 in
theorem prRule_any (r : RU) (sv : Value) (w : World) (hr : RuOk r) (hs : StsAre w sv r.steps) :
    Calls Tryz.prog 38 #[.agg #[.int .i64 r.cls, .bool r.free, sv]] w fun x w' => x = .returned (.string (ruleB r)) ∧ Below w.heap.size w w' := by
  have h1 := fun w' => itoa_any r.cls w' hr.cl
  have h2 := fun q w' (hb : Below w.heap.size w w') => joinSteps_any r.steps q sv w' hr.st hr.ln (hs.moved hb)
  have a := steps_size hr
  have b := decB_size hr.cl
  have hrb : ruleB r = ((if r.free = true then (⟨#[114, 117, 108, 101, 32]⟩ ++ decB r.cls) ++ ⟨#[32, 102, 114, 101, 101]⟩ else ⟨#[114, 117, 108, 101, 32]⟩ ++ decB r.cls) ++ catB (r.steps.map stepB)) ++ ⟨#[10]⟩ := rfl
  obtain ⟨o, c, rfl⟩ := hs.form
  obtain ⟨n, hn⟩ : ∃ n, n = r.steps.length := ⟨_, rfl⟩
  obtain ⟨C, hC⟩ : ∃ C, C = catB (r.steps.map stepB) := ⟨_, rfl⟩
  obtain ⟨D, hD⟩ : ∃ D, D = decB r.cls := ⟨_, rfl⟩
  obtain ⟨k, hk⟩ : ∃ k, k = r.cls := ⟨_, rfl⟩
  obtain ⟨f, hf⟩ : ∃ f, f = r.free := ⟨_, rfl⟩
  rw [← hD, ← hk] at h1
  rw [← hn, ← hC] at h2
  rw [← hC] at a
  rw [← hD] at b
  rw [← hC, ← hD, ← hf] at hrb
  rw [← hn, ← hk, ← hf]
  have HR := Lib.hid hrb
  have H1 := Lib.hid h1
  have H2 := Lib.hid h2
  have HJ := Lib.hid (fun w' => mkJoinS_any w')
  clear h1 h2 hn hC hD hk hf hs hr hrb
  cases f with
  | true =>
    have hu0 : ¬ 9223372036854775807 < 5 + D.size := by omega
    have hu1 : ¬ 9223372036854775807 < 5 + D.size + 5 := by omega
    have hu2 : ¬ 9223372036854775807 < 5 + D.size + 5 + C.size := by omega
    have hu3 : ¬ 9223372036854775807 < 5 + D.size + 5 + C.size + 1 := by omega
    clear a b
    go_enter Tryz.func38, Tryz.ntmps38
    go_wp2_with fail
    refine (H1.out _).mono ?_
    rintro x w2 ⟨rfl, rfl⟩
    go_wp2_with fail
    refine (HJ.out _).mono ?_
    rintro x w2 ⟨rfl, rfl⟩
    obtain ⟨hb1, x0, x1⟩ := two_world (w.alloc (.cells #[.int .i64 k, .bool true, .slice o n c] 64)) w (.cells #[.string ⟨#[]⟩] 9) (.cells #[.func (Fn.func 77) #[] #[]] 112) (bel_new (Below.refl _ _) _)
    go_wp2_with fail
    refine (H2.out _ _ hb1 (by simpa using x0) (by simpa using x1)).mono ?_
    rintro x w3 ⟨rfl, hb3⟩
    have HB3 := Lib.hid (bel_then hb1 hb3)
    clear hb3 hb1 x0 x1
    go_wp2_with fail
    go_ret
    exact ⟨by rw [HR.out]; rfl, HB3.out⟩
  | false =>
    have hu0 : ¬ 9223372036854775807 < 5 + D.size := by omega
    have hu2 : ¬ 9223372036854775807 < 5 + D.size + C.size := by omega
    have hu3 : ¬ 9223372036854775807 < 5 + D.size + C.size + 1 := by omega
    clear a b
    go_enter Tryz.func38, Tryz.ntmps38
    go_wp2_with fail
    refine (H1.out _).mono ?_
    rintro x w2 ⟨rfl, rfl⟩
    go_wp2_with fail
    refine (HJ.out _).mono ?_
    rintro x w2 ⟨rfl, rfl⟩
    obtain ⟨hb1, x0, x1⟩ := two_world (w.alloc (.cells #[.int .i64 k, .bool false, .slice o n c] 64)) w (.cells #[.string ⟨#[]⟩] 9) (.cells #[.func (Fn.func 77) #[] #[]] 112) (bel_new (Below.refl _ _) _)
    go_wp2_with fail
    refine (H2.out _ _ hb1 (by simpa using x0) (by simpa using x1)).mono ?_
    rintro x w3 ⟨rfl, hb3⟩
    have HB3 := Lib.hid (bel_then hb1 hb3)
    clear hb3 hb1 x0 x1
    go_wp2_with fail
    go_ret
    exact ⟨by rw [HR.out]; rfl, HB3.out⟩
end Go.Proofs.YtbanmggkfpnalaaGreatDoor

namespace Go.Proofs.YtbanmggkfpnalaaGreatDoor
open Go.RowKit Ru

def kindB (k : Int) : ByteArray := if k = 0 then ⟨#[105, 110, 116]⟩ else if k = 1 then ⟨#[99, 97, 108, 108]⟩ else ⟨#[114, 101, 116]⟩
def tokB (t : TK) : ByteArray := ((((((((⟨#[116, 111, 107, 32]⟩ ++ t.name) ++ ⟨#[32]⟩) ++ kindB t.kind) ++ ⟨#[32]⟩) ++ decB t.cls) ++ ⟨#[32, 61, 32, 47]⟩) ++ t.re.text) ++ ⟨#[47, 10]⟩)
structure TkOk (t : TK) : Prop where
  nm : t.name.size ≤ 1000
  kd : t.kind = 0 ∨ t.kind = 1 ∨ t.kind = 2
  cl : 0 ≤ t.cls ∧ t.cls ≤ 31
  pr : t.re.prt = true
  sz : t.re.size ≤ 60
theorem kindB_size (k : Int) : (kindB k).size ≤ 4 := by
  unfold kindB
  split
  · show 3 ≤ 4; decide
  · split
    · show 4 ≤ 4; decide
    · show 3 ≤ 4; decide
theorem tokB_size {t : TK} (h : TkOk t) : (tokB t).size ≤ 40000 := by
  have a := re_size t.re.size t.re (Nat.le_refl _) h.pr
  have b := decB_size h.cl
  have c := h.nm
  have d := h.sz
  have e := kindB_size t.kind
  have z1 : (⟨#[116, 111, 107, 32]⟩ : ByteArray).size = 4 := rfl
  have z2 : (⟨#[32]⟩ : ByteArray).size = 1 := rfl
  have z3 : (⟨#[32, 61, 32, 47]⟩ : ByteArray).size = 4 := rfl
  have z4 : (⟨#[47, 10]⟩ : ByteArray).size = 2 := rfl
  unfold tokB
  simp only [ByteArray.size_append]
  omega
set_option maxHeartbeats 8000000 in
set_option maxRecDepth 100000 in
theorem prTok_any (t : TK) (sv lv : Value) (w : World) (ht : TkOk t) (hr : ReIs w t.re sv lv) (hT : TZ w) :
    Calls Tryz.prog 36 #[.agg #[.string t.name, .int .i64 t.kind, .int .i64 t.cls, .int .i64 t.re.kind, sv, lv]] w fun x w' => x = .returned (.string (tokB t)) ∧ Below w.heap.size w w' := by
  have h1 := fun w' => itoa_any t.cls w' ht.cl
  have h2 := fun w' (hb : Below w.heap.size w w') => expr_any t.re sv lv w' (by have := ht.sz; omega) ht.pr (hr.moved hb) (hT.moved hb)
  have a := re_size t.re.size t.re (Nat.le_refl _) ht.pr
  have b := decB_size ht.cl
  have c := ht.nm
  have d := ht.sz
  have htb : tokB t = ((((((((⟨#[116, 111, 107, 32]⟩ ++ t.name) ++ ⟨#[32]⟩) ++ kindB t.kind) ++ ⟨#[32]⟩) ++ decB t.cls) ++ ⟨#[32, 61, 32, 47]⟩) ++ t.re.text) ++ ⟨#[47, 10]⟩) := rfl
  have hkd := ht.kd
  obtain ⟨⟨o1, q1, rfl⟩, ⟨o2, q2, rfl⟩⟩ := hr.form
  obtain ⟨A, hA⟩ : ∃ n, n = t.name := ⟨_, rfl⟩
  obtain ⟨X, hX⟩ : ∃ n, n = t.re.text := ⟨_, rfl⟩
  obtain ⟨D, hD⟩ : ∃ D, D = decB t.cls := ⟨_, rfl⟩
  obtain ⟨kc, hkc⟩ : ∃ k, k = t.cls := ⟨_, rfl⟩
  obtain ⟨kk, hkk⟩ : ∃ k, k = t.kind := ⟨_, rfl⟩
  obtain ⟨rk, hrk⟩ : ∃ k, k = t.re.kind := ⟨_, rfl⟩
  obtain ⟨x1, hx1⟩ : ∃ k, k = t.re.set.length := ⟨_, rfl⟩
  obtain ⟨x2, hx2⟩ : ∃ k, k = t.re.parts.length := ⟨_, rfl⟩
  rw [← hD, ← hkc] at h1
  rw [← hX, ← hrk, ← hx1, ← hx2] at h2
  rw [← hA, ← hX, ← hD, ← hkk] at htb
  rw [← hX] at a
  rw [← hD] at b
  rw [← hA] at c
  rw [← hkk] at hkd
  rw [← hA, ← hkc, ← hkk, ← hrk, ← hx1, ← hx2]
  have HT := Lib.hid htb
  have H1 := Lib.hid h1
  have H2 := Lib.hid h2
  have s1 : X.size ≤ 30000 := by omega
  clear h1 h2 hA hX hD hkc hkk hrk hx1 hx2 ht hr hT htb a d
  rcases hkd with rfl | rfl | rfl
  · have HX := Lib.hid (show tokB t = ((((((((⟨#[116, 111, 107, 32]⟩ ++ A) ++ ⟨#[32]⟩) ++ ⟨#[105, 110, 116]⟩) ++ ⟨#[32]⟩) ++ D) ++ ⟨#[32, 61, 32, 47]⟩) ++ X) ++ ⟨#[47, 10]⟩) from HT.out)
    clear HT
    have hu0 : ¬ 9223372036854775807 < 4 + A.size := by omega
    have hu1 : ¬ 9223372036854775807 < 4 + A.size + 1 := by omega
    have hu2 : ¬ 9223372036854775807 < 4 + A.size + 1 + 3 := by omega
    have hu3 : ¬ 9223372036854775807 < 4 + A.size + 1 + 3 + 1 := by omega
    have hu4 : ¬ 9223372036854775807 < 4 + A.size + 1 + 3 + 1 + D.size := by omega
    have hu5 : ¬ 9223372036854775807 < 4 + A.size + 1 + 3 + 1 + D.size + 4 := by omega
    have hu6 : ¬ 9223372036854775807 < 4 + A.size + 1 + 3 + 1 + D.size + 4 + X.size := by omega
    have hu7 : ¬ 9223372036854775807 < 4 + A.size + 1 + 3 + 1 + D.size + 4 + X.size + 2 := by omega
    clear b c s1
    obtain ⟨W, hW⟩ : ∃ W, W = (w.alloc (.cells #[.string A, .int .i64 0, .int .i64 kc, .int .i64 rk, .slice o1 x1 q1, .slice o2 x2 q2] 61)).alloc (.cells #[.string ⟨#[105, 110, 116]⟩, .string ⟨#[99, 97, 108, 108]⟩, .string ⟨#[114, 101, 116]⟩] 109) := ⟨_, rfl⟩
    obtain ⟨hbW, hbx, hby⟩ := two_world w w (.cells #[.string A, .int .i64 0, .int .i64 kc, .int .i64 rk, .slice o1 x1 q1, .slice o2 x2 q2] 61) (.cells #[.string ⟨#[105, 110, 116]⟩, .string ⟨#[99, 97, 108, 108]⟩, .string ⟨#[114, 101, 116]⟩] 109) (Below.refl _ _)
    rw [← hW] at hbW hbx hby
    obtain ⟨ι, K, hne, hkb, hks⟩ := kept_family W
    have hcell : ∀ i, (K i).cell? ⟨w.heap.size, 0, none⟩ = some (.string A) ∧ (K i).cell? ⟨w.heap.size, 1, none⟩ = some (.int .i64 0) ∧ (K i).cell? ⟨w.heap.size, 2, none⟩ = some (.int .i64 kc) ∧ (K i).cell? ⟨w.heap.size, 3, none⟩ = some (.int .i64 rk) ∧ (K i).cell? ⟨w.heap.size, 4, none⟩ = some (.slice o1 x1 q1) ∧ (K i).cell? ⟨w.heap.size, 5, none⟩ = some (.slice o2 x2 q2) ∧ (K i).cell? ⟨w.heap.size + 1, 0, none⟩ = some (.string ⟨#[105, 110, 116]⟩) := fun i => by
      have g0 := bel_get (hkb i) hbx
      have g1 := bel_get (hkb i) hby
      simp [World.cell?, g0, g1]
    have KB := Lib.hid hkb
    have kS := hks _ (Below.refl _ _).drew
    have HBW := Lib.hid hbW
    have HW := Lib.hid hW
    have HA := Lib.hid (fun i => calls_kept hkb hks (i := i) ((H1.out (K i)).mono (fun e w' h => ⟨h.1, by rw [h.2]; exact Below.refl _ _⟩)))
    have HP := Lib.hid (fun i => calls_kept hkb hks (i := i) (H2.out (K i) (bel_then hbW (hkb i))))
    have j0 : ∀ i, (K i).cell? ⟨w.heap.size, 0, none⟩ = some (.string A) := fun i => (hcell i).1
    have j1 : ∀ i, (K i).cell? ⟨w.heap.size, 1, none⟩ = some (.int .i64 0) := fun i => (hcell i).2.1
    have j2 : ∀ i, (K i).cell? ⟨w.heap.size, 2, none⟩ = some (.int .i64 kc) := fun i => (hcell i).2.2.1
    have j3 : ∀ i, (K i).cell? ⟨w.heap.size, 3, none⟩ = some (.int .i64 rk) := fun i => (hcell i).2.2.2.1
    have j4 : ∀ i, (K i).cell? ⟨w.heap.size, 4, none⟩ = some (.slice o1 x1 q1) := fun i => (hcell i).2.2.2.2.1
    have j5 : ∀ i, (K i).cell? ⟨w.heap.size, 5, none⟩ = some (.slice o2 x2 q2) := fun i => (hcell i).2.2.2.2.2.1
    have j6 : ∀ i, (K i).cell? ⟨w.heap.size + 1, 0, none⟩ = some (.string ⟨#[105, 110, 116]⟩) := fun i => (hcell i).2.2.2.2.2.2
    clear hW hbW hbx hby hkb hks hcell
    go_enter Tryz.func36, Tryz.ntmps36
    go_upto_region 2 with (fail)
    rw [← HW.out]
    refine region_kept K (by kernel_rfl) (by kernel_rfl) kS ?_
    repeat (go_big_quiet_step (with_reducible first | exact HA.out _ | exact HP.out _))
    refine wpQuiet_nil ?_
    rintro _ ⟨iw, rfl⟩
    have HB6 := Lib.hid (bel_then HBW.out (KB.out iw))
    go_wp2_with fail
    go_ret
    exact ⟨by rw [HX.out]; rfl, HB6.out⟩
  · have HX := Lib.hid (show tokB t = ((((((((⟨#[116, 111, 107, 32]⟩ ++ A) ++ ⟨#[32]⟩) ++ ⟨#[99, 97, 108, 108]⟩) ++ ⟨#[32]⟩) ++ D) ++ ⟨#[32, 61, 32, 47]⟩) ++ X) ++ ⟨#[47, 10]⟩) from HT.out)
    clear HT
    have hu0 : ¬ 9223372036854775807 < 4 + A.size := by omega
    have hu1 : ¬ 9223372036854775807 < 4 + A.size + 1 := by omega
    have hu2 : ¬ 9223372036854775807 < 4 + A.size + 1 + 4 := by omega
    have hu3 : ¬ 9223372036854775807 < 4 + A.size + 1 + 4 + 1 := by omega
    have hu4 : ¬ 9223372036854775807 < 4 + A.size + 1 + 4 + 1 + D.size := by omega
    have hu5 : ¬ 9223372036854775807 < 4 + A.size + 1 + 4 + 1 + D.size + 4 := by omega
    have hu6 : ¬ 9223372036854775807 < 4 + A.size + 1 + 4 + 1 + D.size + 4 + X.size := by omega
    have hu7 : ¬ 9223372036854775807 < 4 + A.size + 1 + 4 + 1 + D.size + 4 + X.size + 2 := by omega
    clear b c s1
    obtain ⟨W, hW⟩ : ∃ W, W = (w.alloc (.cells #[.string A, .int .i64 1, .int .i64 kc, .int .i64 rk, .slice o1 x1 q1, .slice o2 x2 q2] 61)).alloc (.cells #[.string ⟨#[105, 110, 116]⟩, .string ⟨#[99, 97, 108, 108]⟩, .string ⟨#[114, 101, 116]⟩] 109) := ⟨_, rfl⟩
    obtain ⟨hbW, hbx, hby⟩ := two_world w w (.cells #[.string A, .int .i64 1, .int .i64 kc, .int .i64 rk, .slice o1 x1 q1, .slice o2 x2 q2] 61) (.cells #[.string ⟨#[105, 110, 116]⟩, .string ⟨#[99, 97, 108, 108]⟩, .string ⟨#[114, 101, 116]⟩] 109) (Below.refl _ _)
    rw [← hW] at hbW hbx hby
    obtain ⟨ι, K, hne, hkb, hks⟩ := kept_family W
    have hcell : ∀ i, (K i).cell? ⟨w.heap.size, 0, none⟩ = some (.string A) ∧ (K i).cell? ⟨w.heap.size, 1, none⟩ = some (.int .i64 1) ∧ (K i).cell? ⟨w.heap.size, 2, none⟩ = some (.int .i64 kc) ∧ (K i).cell? ⟨w.heap.size, 3, none⟩ = some (.int .i64 rk) ∧ (K i).cell? ⟨w.heap.size, 4, none⟩ = some (.slice o1 x1 q1) ∧ (K i).cell? ⟨w.heap.size, 5, none⟩ = some (.slice o2 x2 q2) ∧ (K i).cell? ⟨w.heap.size + 1, 1, none⟩ = some (.string ⟨#[99, 97, 108, 108]⟩) := fun i => by
      have g0 := bel_get (hkb i) hbx
      have g1 := bel_get (hkb i) hby
      simp [World.cell?, g0, g1]
    have KB := Lib.hid hkb
    have kS := hks _ (Below.refl _ _).drew
    have HBW := Lib.hid hbW
    have HW := Lib.hid hW
    have HA := Lib.hid (fun i => calls_kept hkb hks (i := i) ((H1.out (K i)).mono (fun e w' h => ⟨h.1, by rw [h.2]; exact Below.refl _ _⟩)))
    have HP := Lib.hid (fun i => calls_kept hkb hks (i := i) (H2.out (K i) (bel_then hbW (hkb i))))
    have j0 : ∀ i, (K i).cell? ⟨w.heap.size, 0, none⟩ = some (.string A) := fun i => (hcell i).1
    have j1 : ∀ i, (K i).cell? ⟨w.heap.size, 1, none⟩ = some (.int .i64 1) := fun i => (hcell i).2.1
    have j2 : ∀ i, (K i).cell? ⟨w.heap.size, 2, none⟩ = some (.int .i64 kc) := fun i => (hcell i).2.2.1
    have j3 : ∀ i, (K i).cell? ⟨w.heap.size, 3, none⟩ = some (.int .i64 rk) := fun i => (hcell i).2.2.2.1
    have j4 : ∀ i, (K i).cell? ⟨w.heap.size, 4, none⟩ = some (.slice o1 x1 q1) := fun i => (hcell i).2.2.2.2.1
    have j5 : ∀ i, (K i).cell? ⟨w.heap.size, 5, none⟩ = some (.slice o2 x2 q2) := fun i => (hcell i).2.2.2.2.2.1
    have j6 : ∀ i, (K i).cell? ⟨w.heap.size + 1, 1, none⟩ = some (.string ⟨#[99, 97, 108, 108]⟩) := fun i => (hcell i).2.2.2.2.2.2
    clear hW hbW hbx hby hkb hks hcell
    go_enter Tryz.func36, Tryz.ntmps36
    go_upto_region 2 with (fail)
    rw [← HW.out]
    refine region_kept K (by kernel_rfl) (by kernel_rfl) kS ?_
    repeat (go_big_quiet_step (with_reducible first | exact HA.out _ | exact HP.out _))
    refine wpQuiet_nil ?_
    rintro _ ⟨iw, rfl⟩
    have HB6 := Lib.hid (bel_then HBW.out (KB.out iw))
    go_wp2_with fail
    go_ret
    exact ⟨by rw [HX.out]; rfl, HB6.out⟩
  · have HX := Lib.hid (show tokB t = ((((((((⟨#[116, 111, 107, 32]⟩ ++ A) ++ ⟨#[32]⟩) ++ ⟨#[114, 101, 116]⟩) ++ ⟨#[32]⟩) ++ D) ++ ⟨#[32, 61, 32, 47]⟩) ++ X) ++ ⟨#[47, 10]⟩) from HT.out)
    clear HT
    have hu0 : ¬ 9223372036854775807 < 4 + A.size := by omega
    have hu1 : ¬ 9223372036854775807 < 4 + A.size + 1 := by omega
    have hu2 : ¬ 9223372036854775807 < 4 + A.size + 1 + 3 := by omega
    have hu3 : ¬ 9223372036854775807 < 4 + A.size + 1 + 3 + 1 := by omega
    have hu4 : ¬ 9223372036854775807 < 4 + A.size + 1 + 3 + 1 + D.size := by omega
    have hu5 : ¬ 9223372036854775807 < 4 + A.size + 1 + 3 + 1 + D.size + 4 := by omega
    have hu6 : ¬ 9223372036854775807 < 4 + A.size + 1 + 3 + 1 + D.size + 4 + X.size := by omega
    have hu7 : ¬ 9223372036854775807 < 4 + A.size + 1 + 3 + 1 + D.size + 4 + X.size + 2 := by omega
    clear b c s1
    obtain ⟨W, hW⟩ : ∃ W, W = (w.alloc (.cells #[.string A, .int .i64 2, .int .i64 kc, .int .i64 rk, .slice o1 x1 q1, .slice o2 x2 q2] 61)).alloc (.cells #[.string ⟨#[105, 110, 116]⟩, .string ⟨#[99, 97, 108, 108]⟩, .string ⟨#[114, 101, 116]⟩] 109) := ⟨_, rfl⟩
    obtain ⟨hbW, hbx, hby⟩ := two_world w w (.cells #[.string A, .int .i64 2, .int .i64 kc, .int .i64 rk, .slice o1 x1 q1, .slice o2 x2 q2] 61) (.cells #[.string ⟨#[105, 110, 116]⟩, .string ⟨#[99, 97, 108, 108]⟩, .string ⟨#[114, 101, 116]⟩] 109) (Below.refl _ _)
    rw [← hW] at hbW hbx hby
    obtain ⟨ι, K, hne, hkb, hks⟩ := kept_family W
    have hcell : ∀ i, (K i).cell? ⟨w.heap.size, 0, none⟩ = some (.string A) ∧ (K i).cell? ⟨w.heap.size, 1, none⟩ = some (.int .i64 2) ∧ (K i).cell? ⟨w.heap.size, 2, none⟩ = some (.int .i64 kc) ∧ (K i).cell? ⟨w.heap.size, 3, none⟩ = some (.int .i64 rk) ∧ (K i).cell? ⟨w.heap.size, 4, none⟩ = some (.slice o1 x1 q1) ∧ (K i).cell? ⟨w.heap.size, 5, none⟩ = some (.slice o2 x2 q2) ∧ (K i).cell? ⟨w.heap.size + 1, 2, none⟩ = some (.string ⟨#[114, 101, 116]⟩) := fun i => by
      have g0 := bel_get (hkb i) hbx
      have g1 := bel_get (hkb i) hby
      simp [World.cell?, g0, g1]
    have KB := Lib.hid hkb
    have kS := hks _ (Below.refl _ _).drew
    have HBW := Lib.hid hbW
    have HW := Lib.hid hW
    have HA := Lib.hid (fun i => calls_kept hkb hks (i := i) ((H1.out (K i)).mono (fun e w' h => ⟨h.1, by rw [h.2]; exact Below.refl _ _⟩)))
    have HP := Lib.hid (fun i => calls_kept hkb hks (i := i) (H2.out (K i) (bel_then hbW (hkb i))))
    have j0 : ∀ i, (K i).cell? ⟨w.heap.size, 0, none⟩ = some (.string A) := fun i => (hcell i).1
    have j1 : ∀ i, (K i).cell? ⟨w.heap.size, 1, none⟩ = some (.int .i64 2) := fun i => (hcell i).2.1
    have j2 : ∀ i, (K i).cell? ⟨w.heap.size, 2, none⟩ = some (.int .i64 kc) := fun i => (hcell i).2.2.1
    have j3 : ∀ i, (K i).cell? ⟨w.heap.size, 3, none⟩ = some (.int .i64 rk) := fun i => (hcell i).2.2.2.1
    have j4 : ∀ i, (K i).cell? ⟨w.heap.size, 4, none⟩ = some (.slice o1 x1 q1) := fun i => (hcell i).2.2.2.2.1
    have j5 : ∀ i, (K i).cell? ⟨w.heap.size, 5, none⟩ = some (.slice o2 x2 q2) := fun i => (hcell i).2.2.2.2.2.1
    have j6 : ∀ i, (K i).cell? ⟨w.heap.size + 1, 2, none⟩ = some (.string ⟨#[114, 101, 116]⟩) := fun i => (hcell i).2.2.2.2.2.2
    clear hW hbW hbx hby hkb hks hcell
    go_enter Tryz.func36, Tryz.ntmps36
    go_upto_region 2 with (fail)
    rw [← HW.out]
    refine region_kept K (by kernel_rfl) (by kernel_rfl) kS ?_
    repeat (go_big_quiet_step (with_reducible first | exact HA.out _ | exact HP.out _))
    refine wpQuiet_nil ?_
    rintro _ ⟨iw, rfl⟩
    have HB6 := Lib.hid (bel_then HBW.out (KB.out iw))
    go_wp2_with fail
    go_ret
    exact ⟨by rw [HX.out]; rfl, HB6.out⟩
end Go.Proofs.YtbanmggkfpnalaaGreatDoor
