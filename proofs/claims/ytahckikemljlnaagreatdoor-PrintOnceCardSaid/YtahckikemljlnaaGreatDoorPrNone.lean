/- print.hasNone. -/
import Derived.Test.YtahckikemljlnaaGreatDoorPrPx
import Derived.Test.YtahckikemljlnaaGreatDoorGSame
set_option linter.unusedVariables false
set_option linter.unusedSimpArgs false
namespace Go.Proofs.YtahckikemljlnaaGreatDoor
open Go.RowKit Ru
theorem mkJoinT_any (w : World) : Calls Tryz.prog 67 #[.string ⟨#[]⟩, .func (Fn.func 68) #[] #[]] w fun e w' =>
    e = .returned (.func (Fn.func 116) #[] #[.pointer (some ⟨w.heap.size + 1, 0, none⟩), .pointer (some ⟨w.heap.size, 0, none⟩)]) ∧
      w' = (w.alloc (.cells #[.string ⟨#[]⟩] 9)).alloc (.cells #[.func (Fn.func 68) #[] #[]] 112) := by
  go_enter Tryz.func67, Tryz.ntmps67
  go_wp2
  go_ret
  exact ⟨rfl, rfl⟩
set_option maxHeartbeats 4000000 in
set_option maxRecDepth 100000 in
theorem joinedT_any (q n : Nat) (o : Option Addr) (cap : Nat) (c0 : Nat → ByteArray) (c1 : Nat → Int) (c2 : Nat → Int) (c3 : Nat → Int) (o4 : Nat → Option Addr) (n4 p4 : Nat → Nat) (o5 : Nat → Option Addr) (n5 p5 : Nat → Nat) (T : Nat → ByteArray) (w : World) (hn : n ≤ 100000)
    (hel : ∀ i, i < n → ∃ b off, o = some ⟨b, off, none⟩ ∧ b < w.heap.size ∧ w.cell? ⟨b, off + i * 6, none⟩ = some (.string (c0 i)) ∧ w.cell? ⟨b, off + i * 6 + 1, none⟩ = some (.int .i64 (c1 i)) ∧ w.cell? ⟨b, off + i * 6 + 2, none⟩ = some (.int .i64 (c2 i)) ∧ w.cell? ⟨b, off + i * 6 + 3, none⟩ = some (.int .i64 (c3 i)) ∧ w.cell? ⟨b, off + i * 6 + 4, none⟩ = some (.slice (o4 i) (n4 i) (p4 i)) ∧ w.cell? ⟨b, off + i * 6 + 5, none⟩ = some (.slice (o5 i) (n5 i) (p5 i)))
    (hq0 : w.heap[q]? = some (.cells #[.string ⟨#[]⟩] 9 (0, 0))) (hq1 : w.heap[q + 1]? = some (.cells #[.func (Fn.func 68) #[] #[]] 112 (0, 0)))
    (hF : ∀ i, i < n → ∀ w', Below w.heap.size w w' → Calls Tryz.prog 68 #[.agg #[.string (c0 i), .int .i64 (c1 i), .int .i64 (c2 i), .int .i64 (c3 i), .slice (o4 i) (n4 i) (p4 i), .slice (o5 i) (n5 i) (p5 i)]] w' fun e w'' => e = .returned (.string (T i)) ∧ Below w'.heap.size w' w'')
    (hl : (catB ((List.range n).map T)).size ≤ 140737488355328) :
    Calls Tryz.prog 116 #[.slice o n cap, .pointer (some ⟨q + 1, 0, none⟩), .pointer (some ⟨q, 0, none⟩)] w fun e w' => e = .returned (.string (catB ((List.range n).map T))) ∧ Below w.heap.size w w' := by
  obtain ⟨i0, hi, hz0, hz1, hz2⟩ := infoStr1
  have HEL := Lib.hid hel
  have HF := Lib.hid hF
  have HL := Lib.hid hl
  have HQ := Lib.hid (And.intro hq0 hq1)
  clear hel hF hl hq0 hq1
  go_enter Tryz.func116, Tryz.ntmps116
  go_wp2_with fail
  go_loopw [5, 10] (fun x i wr => ∃ k : Nat, k ≤ n ∧ i = .int .i64 k ∧ wr.ownsRow w.heap.size 9 1 x k (strs ((List.range k).map T)) ∧ Below w.heap.size w wr) (fun _ i _ => n - (intOf i).toNat)
  case atStart => exact ⟨0, Nat.zero_le _, rfl, World.ownsRow_nil _ _ _ _, Below.refl _ _⟩
  case round =>
    obtain ⟨k, hk, rfl, hown, hbel⟩ := hrel
    have hbs := hbel.size
    obtain ⟨bx0, y0⟩ := cell1_of ((hbel.block _ (get_lt HQ.out.1)).trans HQ.out.1)
    obtain ⟨bx1, y1⟩ := cell1_of ((hbel.block _ (get_lt HQ.out.2)).trans HQ.out.2)
    have hlt1 := get_lt HQ.out.2
    have hlt2 : q + 1 < wr.heap.size := by omega
    have hne2 : ¬ q + 1 = wr.heap.size := by omega
    have hlt3 : q < wr.heap.size := by omega
    have hne3 : ¬ q = wr.heap.size := by omega
    by_cases hkl : k < n
    · have hd : decide ((k : Int) < (n : Int)) = true := by simp; omega
      have hk1 : (0 : Int) ≤ (k : Int) := by omega
      have hk2 : (k : Int) < (n : Int) := by omega
      obtain ⟨b, off, rfl, hlt, z0, z1, z2, z3, z4, z5⟩ := HEL.out k hkl
      rw [← hbel.cell hlt] at z0
      rw [← hbel.cell hlt] at z1
      rw [← hbel.cell hlt] at z2
      rw [← hbel.cell hlt] at z3
      rw [← hbel.cell hlt] at z4
      rw [← hbel.cell hlt] at z5
      have hlt' : b < wr.heap.size := by omega
      have hc := HF.out k hkl
      obtain ⟨g0, hg0⟩ : ∃ d, d = c0 k := ⟨_, rfl⟩
      rw [← hg0] at z0 hc
      clear hg0
      obtain ⟨g1, hg1⟩ : ∃ d, d = c1 k := ⟨_, rfl⟩
      rw [← hg1] at z1 hc
      clear hg1
      obtain ⟨g2, hg2⟩ : ∃ d, d = c2 k := ⟨_, rfl⟩
      rw [← hg2] at z2 hc
      clear hg2
      obtain ⟨g3, hg3⟩ : ∃ d, d = c3 k := ⟨_, rfl⟩
      rw [← hg3] at z3 hc
      clear hg3
      obtain ⟨go4, hgo4⟩ : ∃ d, d = o4 k := ⟨_, rfl⟩
      obtain ⟨gn4, hgn4⟩ : ∃ d, d = n4 k := ⟨_, rfl⟩
      obtain ⟨gp4, hgp4⟩ : ∃ d, d = p4 k := ⟨_, rfl⟩
      rw [← hgo4, ← hgn4, ← hgp4] at z4 hc
      clear hgo4 hgn4 hgp4
      obtain ⟨go5, hgo5⟩ : ∃ d, d = o5 k := ⟨_, rfl⟩
      obtain ⟨gn5, hgn5⟩ : ∃ d, d = n5 k := ⟨_, rfl⟩
      obtain ⟨gp5, hgp5⟩ : ∃ d, d = p5 k := ⟨_, rfl⟩
      rw [← hgo5, ← hgn5, ← hgp5] at z5 hc
      clear hgo5 hgn5 hgp5
      have HOWN := Lib.hid hown
      have HB := Lib.hid hbel
      have HC := Lib.hid hc
      clear hown hbel hc
      go_wp2_with fail
      refine (HC.out _ (HB.out.alloc hbs _)).mono ?_
      rintro e w2 ⟨rfl, hb2⟩
      have HB2 := Lib.hid hb2
      clear hb2 bx0 y0 bx1 y1
      go_wp2_with (first
        | (at_builtin; refine wpList_append_own _ rfl _ _ 62 rfl w.heap.size 9 i0 (.string ⟨#[]⟩) 1 16 Tryz.underlying62 hi hz0 hz1 hz2 rfl (by decide) _ k (strs ((List.range k).map T)) rfl ?c0 ⟨w2.heap.size, 0, none⟩ 1 1 [.string (T k)] rfl rfl ?c1 ?c2 ?c3 ?c4 ?c5 ?_)
        | go_in)
      case c0 => exact (owns_below (owns_below HOWN.out ((Below.refl _ _).alloc (Nat.le_refl _) _)) HB2.out).alloc _
      case c1 =>
        intro j u hj
        match j, hj with
        | 0, hj => simp at hj; subst hj; exact Joins.cell_alloc_mark_at _ #[.string (T k)] 9 (0, 0) _ 0 (by simp)
      case c2 => intro u hu; simp at hu; subst hu; rfl
      case c3 => unfold maxLen; omega
      case c4 => omega
      case c5 => have hz2 := HB2.out.size; simp at hz2; simp; omega
      intro v' w4 hown' hgrow _
      have hB1 : Below w.heap.size w w4 := by
        have hz2 := HB2.out.size
        simp at hz2
        refine ((bel_then (HB.out.alloc hbs _) HB2.out).alloc (by omega) _).grown hgrow (by simp; omega) (fun j hj => ?_)
        exact (HOWN.out.lt j hj).1
      have htk : (List.range (k + 1)).map T = (List.range k).map T ++ [T k] := by rw [List.range_succ]; simp
      have hown2 : w4.ownsRow w.heap.size 9 1 v' (k + 1) (strs ((List.range (k + 1)).map T)) := by
        rw [htk]; simpa [strs] using hown'
      have HO := Lib.hid hown2
      have HB4 := Lib.hid hB1
      clear hown' hgrow hown2 hB1 htk z0 z1 z2 z3 z4 z5 HB HB2 HOWN HC hne2 hne3 hlt1 hlt2 hlt3 hlt' hlt
      go_wp2_with fail
      go_roundw
      case rel => exact ⟨k + 1, by omega, by go_num, HO.out, HB4.out⟩
      case measure => simp [intOf]; omega
    · have hkn : k = n := by omega
      subst hkn
      have hd : decide ((k : Int) < (k : Int)) = false := by simp
      have hrow : Row wr u5 ((List.range k).map T).length (strs ((List.range k).map T)) := by
        have := Row.owned hown
        rw [List.length_map, List.length_range]; exact this
      have hjn := strJoin_any _ _ _ hrow (by rw [List.length_map, List.length_range]; omega) HL.out
      have HJ := Lib.hid hjn
      have HB := Lib.hid hbel
      clear hown hrow hjn hbel
      go_wp2_with fail
      refine HJ.out.mono ?_
      rintro e w2 ⟨rfl, hb2⟩
      have HB2 := Lib.hid (bel_then HB.out hb2)
      clear hb2
      go_wp2_with fail
      go_ret
      exact ⟨rfl, HB2.out⟩
theorem mkJoinU_any (w : World) : Calls Tryz.prog 69 #[.string ⟨#[]⟩, .func (Fn.func 70) #[] #[]] w fun e w' =>
    e = .returned (.func (Fn.func 119) #[] #[.pointer (some ⟨w.heap.size + 1, 0, none⟩), .pointer (some ⟨w.heap.size, 0, none⟩)]) ∧
      w' = (w.alloc (.cells #[.string ⟨#[]⟩] 9)).alloc (.cells #[.func (Fn.func 70) #[] #[]] 115) := by
  go_enter Tryz.func69, Tryz.ntmps69
  go_wp2
  go_ret
  exact ⟨rfl, rfl⟩
set_option maxHeartbeats 4000000 in
set_option maxRecDepth 100000 in
theorem joinedU_any (q n : Nat) (o : Option Addr) (cap : Nat) (c0 : Nat → Int) (c1 : Nat → Bool) (o2 : Nat → Option Addr) (n2 p2 : Nat → Nat) (T : Nat → ByteArray) (w : World) (hn : n ≤ 100000)
    (hel : ∀ i, i < n → ∃ b off, o = some ⟨b, off, none⟩ ∧ b < w.heap.size ∧ w.cell? ⟨b, off + i * 3, none⟩ = some (.int .i64 (c0 i)) ∧ w.cell? ⟨b, off + i * 3 + 1, none⟩ = some (.bool (c1 i)) ∧ w.cell? ⟨b, off + i * 3 + 2, none⟩ = some (.slice (o2 i) (n2 i) (p2 i)))
    (hq0 : w.heap[q]? = some (.cells #[.string ⟨#[]⟩] 9 (0, 0))) (hq1 : w.heap[q + 1]? = some (.cells #[.func (Fn.func 70) #[] #[]] 115 (0, 0)))
    (hF : ∀ i, i < n → ∀ w', Below w.heap.size w w' → Calls Tryz.prog 70 #[.agg #[.int .i64 (c0 i), .bool (c1 i), .slice (o2 i) (n2 i) (p2 i)]] w' fun e w'' => e = .returned (.string (T i)) ∧ Below w'.heap.size w' w'')
    (hl : (catB ((List.range n).map T)).size ≤ 140737488355328) :
    Calls Tryz.prog 119 #[.slice o n cap, .pointer (some ⟨q + 1, 0, none⟩), .pointer (some ⟨q, 0, none⟩)] w fun e w' => e = .returned (.string (catB ((List.range n).map T))) ∧ Below w.heap.size w w' := by
  obtain ⟨i0, hi, hz0, hz1, hz2⟩ := infoStr1
  have HEL := Lib.hid hel
  have HF := Lib.hid hF
  have HL := Lib.hid hl
  have HQ := Lib.hid (And.intro hq0 hq1)
  clear hel hF hl hq0 hq1
  go_enter Tryz.func119, Tryz.ntmps119
  go_wp2_with fail
  go_loopw [5, 10] (fun x i wr => ∃ k : Nat, k ≤ n ∧ i = .int .i64 k ∧ wr.ownsRow w.heap.size 9 1 x k (strs ((List.range k).map T)) ∧ Below w.heap.size w wr) (fun _ i _ => n - (intOf i).toNat)
  case atStart => exact ⟨0, Nat.zero_le _, rfl, World.ownsRow_nil _ _ _ _, Below.refl _ _⟩
  case round =>
    obtain ⟨k, hk, rfl, hown, hbel⟩ := hrel
    have hbs := hbel.size
    obtain ⟨bx0, y0⟩ := cell1_of ((hbel.block _ (get_lt HQ.out.1)).trans HQ.out.1)
    obtain ⟨bx1, y1⟩ := cell1_of ((hbel.block _ (get_lt HQ.out.2)).trans HQ.out.2)
    have hlt1 := get_lt HQ.out.2
    have hlt2 : q + 1 < wr.heap.size := by omega
    have hne2 : ¬ q + 1 = wr.heap.size := by omega
    have hlt3 : q < wr.heap.size := by omega
    have hne3 : ¬ q = wr.heap.size := by omega
    by_cases hkl : k < n
    · have hd : decide ((k : Int) < (n : Int)) = true := by simp; omega
      have hk1 : (0 : Int) ≤ (k : Int) := by omega
      have hk2 : (k : Int) < (n : Int) := by omega
      obtain ⟨b, off, rfl, hlt, z0, z1, z2⟩ := HEL.out k hkl
      rw [← hbel.cell hlt] at z0
      rw [← hbel.cell hlt] at z1
      rw [← hbel.cell hlt] at z2
      have hlt' : b < wr.heap.size := by omega
      have hc := HF.out k hkl
      obtain ⟨g0, hg0⟩ : ∃ d, d = c0 k := ⟨_, rfl⟩
      rw [← hg0] at z0 hc
      clear hg0
      obtain ⟨g1, hg1⟩ : ∃ d, d = c1 k := ⟨_, rfl⟩
      rw [← hg1] at z1 hc
      clear hg1
      obtain ⟨go2, hgo2⟩ : ∃ d, d = o2 k := ⟨_, rfl⟩
      obtain ⟨gn2, hgn2⟩ : ∃ d, d = n2 k := ⟨_, rfl⟩
      obtain ⟨gp2, hgp2⟩ : ∃ d, d = p2 k := ⟨_, rfl⟩
      rw [← hgo2, ← hgn2, ← hgp2] at z2 hc
      clear hgo2 hgn2 hgp2
      have HOWN := Lib.hid hown
      have HB := Lib.hid hbel
      have HC := Lib.hid hc
      clear hown hbel hc
      go_wp2_with fail
      refine (HC.out _ (HB.out.alloc hbs _)).mono ?_
      rintro e w2 ⟨rfl, hb2⟩
      have HB2 := Lib.hid hb2
      clear hb2 bx0 y0 bx1 y1
      go_wp2_with (first
        | (at_builtin; refine wpList_append_own _ rfl _ _ 62 rfl w.heap.size 9 i0 (.string ⟨#[]⟩) 1 16 Tryz.underlying62 hi hz0 hz1 hz2 rfl (by decide) _ k (strs ((List.range k).map T)) rfl ?c0 ⟨w2.heap.size, 0, none⟩ 1 1 [.string (T k)] rfl rfl ?c1 ?c2 ?c3 ?c4 ?c5 ?_)
        | go_in)
      case c0 => exact (owns_below (owns_below HOWN.out ((Below.refl _ _).alloc (Nat.le_refl _) _)) HB2.out).alloc _
      case c1 =>
        intro j u hj
        match j, hj with
        | 0, hj => simp at hj; subst hj; exact Joins.cell_alloc_mark_at _ #[.string (T k)] 9 (0, 0) _ 0 (by simp)
      case c2 => intro u hu; simp at hu; subst hu; rfl
      case c3 => unfold maxLen; omega
      case c4 => omega
      case c5 => have hz2 := HB2.out.size; simp at hz2; simp; omega
      intro v' w4 hown' hgrow _
      have hB1 : Below w.heap.size w w4 := by
        have hz2 := HB2.out.size
        simp at hz2
        refine ((bel_then (HB.out.alloc hbs _) HB2.out).alloc (by omega) _).grown hgrow (by simp; omega) (fun j hj => ?_)
        exact (HOWN.out.lt j hj).1
      have htk : (List.range (k + 1)).map T = (List.range k).map T ++ [T k] := by rw [List.range_succ]; simp
      have hown2 : w4.ownsRow w.heap.size 9 1 v' (k + 1) (strs ((List.range (k + 1)).map T)) := by
        rw [htk]; simpa [strs] using hown'
      have HO := Lib.hid hown2
      have HB4 := Lib.hid hB1
      clear hown' hgrow hown2 hB1 htk z0 z1 z2 HB HB2 HOWN HC hne2 hne3 hlt1 hlt2 hlt3 hlt' hlt
      go_wp2_with fail
      go_roundw
      case rel => exact ⟨k + 1, by omega, by go_num, HO.out, HB4.out⟩
      case measure => simp [intOf]; omega
    · have hkn : k = n := by omega
      subst hkn
      have hd : decide ((k : Int) < (k : Int)) = false := by simp
      have hrow : Row wr u5 ((List.range k).map T).length (strs ((List.range k).map T)) := by
        have := Row.owned hown
        rw [List.length_map, List.length_range]; exact this
      have hjn := strJoin_any _ _ _ hrow (by rw [List.length_map, List.length_range]; omega) HL.out
      have HJ := Lib.hid hjn
      have HB := Lib.hid hbel
      clear hown hrow hjn hbel
      go_wp2_with fail
      refine HJ.out.mono ?_
      rintro e w2 ⟨rfl, hb2⟩
      have HB2 := Lib.hid (bel_then HB.out hb2)
      clear hb2
      go_wp2_with fail
      go_ret
      exact ⟨rfl, HB2.out⟩
theorem mkJoinS_any (w : World) : Calls Tryz.prog 120 #[.string ⟨#[]⟩, .func (Fn.func 121) #[] #[]] w fun e w' =>
    e = .returned (.func (Fn.func 181) #[] #[.pointer (some ⟨w.heap.size + 1, 0, none⟩), .pointer (some ⟨w.heap.size, 0, none⟩)]) ∧
      w' = (w.alloc (.cells #[.string ⟨#[]⟩] 9)).alloc (.cells #[.func (Fn.func 121) #[] #[]] 164) := by
  go_enter Tryz.func120, Tryz.ntmps120
  go_wp2
  go_ret
  exact ⟨rfl, rfl⟩
set_option maxHeartbeats 4000000 in
set_option maxRecDepth 100000 in
theorem joinedS_any (q n : Nat) (o : Option Addr) (cap : Nat) (o0 : Nat → Option Addr) (n0 p0 : Nat → Nat) (c1 : Nat → Int) (o2 : Nat → Option Addr) (n2 p2 : Nat → Nat) (o3 : Nat → Option Addr) (n3 p3 : Nat → Nat) (o4 : Nat → Option Addr) (n4 p4 : Nat → Nat) (T : Nat → ByteArray) (w : World) (hn : n ≤ 100000)
    (hel : ∀ i, i < n → ∃ b off, o = some ⟨b, off, none⟩ ∧ b < w.heap.size ∧ w.cell? ⟨b, off + i * 5, none⟩ = some (.slice (o0 i) (n0 i) (p0 i)) ∧ w.cell? ⟨b, off + i * 5 + 1, none⟩ = some (.int .i64 (c1 i)) ∧ w.cell? ⟨b, off + i * 5 + 2, none⟩ = some (.slice (o2 i) (n2 i) (p2 i)) ∧ w.cell? ⟨b, off + i * 5 + 3, none⟩ = some (.slice (o3 i) (n3 i) (p3 i)) ∧ w.cell? ⟨b, off + i * 5 + 4, none⟩ = some (.slice (o4 i) (n4 i) (p4 i)))
    (hq0 : w.heap[q]? = some (.cells #[.string ⟨#[]⟩] 9 (0, 0))) (hq1 : w.heap[q + 1]? = some (.cells #[.func (Fn.func 121) #[] #[]] 164 (0, 0)))
    (hF : ∀ i, i < n → ∀ w', Below w.heap.size w w' → Calls Tryz.prog 121 #[.agg #[.slice (o0 i) (n0 i) (p0 i), .int .i64 (c1 i), .slice (o2 i) (n2 i) (p2 i), .slice (o3 i) (n3 i) (p3 i), .slice (o4 i) (n4 i) (p4 i)]] w' fun e w'' => e = .returned (.string (T i)) ∧ Below w'.heap.size w' w'')
    (hl : (catB ((List.range n).map T)).size ≤ 140737488355328) :
    Calls Tryz.prog 181 #[.slice o n cap, .pointer (some ⟨q + 1, 0, none⟩), .pointer (some ⟨q, 0, none⟩)] w fun e w' => e = .returned (.string (catB ((List.range n).map T))) ∧ Below w.heap.size w w' := by
  obtain ⟨i0, hi, hz0, hz1, hz2⟩ := infoStr1
  have HEL := Lib.hid hel
  have HF := Lib.hid hF
  have HL := Lib.hid hl
  have HQ := Lib.hid (And.intro hq0 hq1)
  clear hel hF hl hq0 hq1
  go_enter Tryz.func181, Tryz.ntmps181
  go_wp2_with fail
  go_loopw [5, 10] (fun x i wr => ∃ k : Nat, k ≤ n ∧ i = .int .i64 k ∧ wr.ownsRow w.heap.size 9 1 x k (strs ((List.range k).map T)) ∧ Below w.heap.size w wr) (fun _ i _ => n - (intOf i).toNat)
  case atStart => exact ⟨0, Nat.zero_le _, rfl, World.ownsRow_nil _ _ _ _, Below.refl _ _⟩
  case round =>
    obtain ⟨k, hk, rfl, hown, hbel⟩ := hrel
    have hbs := hbel.size
    obtain ⟨bx0, y0⟩ := cell1_of ((hbel.block _ (get_lt HQ.out.1)).trans HQ.out.1)
    obtain ⟨bx1, y1⟩ := cell1_of ((hbel.block _ (get_lt HQ.out.2)).trans HQ.out.2)
    have hlt1 := get_lt HQ.out.2
    have hlt2 : q + 1 < wr.heap.size := by omega
    have hne2 : ¬ q + 1 = wr.heap.size := by omega
    have hlt3 : q < wr.heap.size := by omega
    have hne3 : ¬ q = wr.heap.size := by omega
    by_cases hkl : k < n
    · have hd : decide ((k : Int) < (n : Int)) = true := by simp; omega
      have hk1 : (0 : Int) ≤ (k : Int) := by omega
      have hk2 : (k : Int) < (n : Int) := by omega
      obtain ⟨b, off, rfl, hlt, z0, z1, z2, z3, z4⟩ := HEL.out k hkl
      rw [← hbel.cell hlt] at z0
      rw [← hbel.cell hlt] at z1
      rw [← hbel.cell hlt] at z2
      rw [← hbel.cell hlt] at z3
      rw [← hbel.cell hlt] at z4
      have hlt' : b < wr.heap.size := by omega
      have hc := HF.out k hkl
      obtain ⟨go0, hgo0⟩ : ∃ d, d = o0 k := ⟨_, rfl⟩
      obtain ⟨gn0, hgn0⟩ : ∃ d, d = n0 k := ⟨_, rfl⟩
      obtain ⟨gp0, hgp0⟩ : ∃ d, d = p0 k := ⟨_, rfl⟩
      rw [← hgo0, ← hgn0, ← hgp0] at z0 hc
      clear hgo0 hgn0 hgp0
      obtain ⟨g1, hg1⟩ : ∃ d, d = c1 k := ⟨_, rfl⟩
      rw [← hg1] at z1 hc
      clear hg1
      obtain ⟨go2, hgo2⟩ : ∃ d, d = o2 k := ⟨_, rfl⟩
      obtain ⟨gn2, hgn2⟩ : ∃ d, d = n2 k := ⟨_, rfl⟩
      obtain ⟨gp2, hgp2⟩ : ∃ d, d = p2 k := ⟨_, rfl⟩
      rw [← hgo2, ← hgn2, ← hgp2] at z2 hc
      clear hgo2 hgn2 hgp2
      obtain ⟨go3, hgo3⟩ : ∃ d, d = o3 k := ⟨_, rfl⟩
      obtain ⟨gn3, hgn3⟩ : ∃ d, d = n3 k := ⟨_, rfl⟩
      obtain ⟨gp3, hgp3⟩ : ∃ d, d = p3 k := ⟨_, rfl⟩
      rw [← hgo3, ← hgn3, ← hgp3] at z3 hc
      clear hgo3 hgn3 hgp3
      obtain ⟨go4, hgo4⟩ : ∃ d, d = o4 k := ⟨_, rfl⟩
      obtain ⟨gn4, hgn4⟩ : ∃ d, d = n4 k := ⟨_, rfl⟩
      obtain ⟨gp4, hgp4⟩ : ∃ d, d = p4 k := ⟨_, rfl⟩
      rw [← hgo4, ← hgn4, ← hgp4] at z4 hc
      clear hgo4 hgn4 hgp4
      have HOWN := Lib.hid hown
      have HB := Lib.hid hbel
      have HC := Lib.hid hc
      clear hown hbel hc
      go_wp2_with fail
      refine (HC.out _ (HB.out.alloc hbs _)).mono ?_
      rintro e w2 ⟨rfl, hb2⟩
      have HB2 := Lib.hid hb2
      clear hb2 bx0 y0 bx1 y1
      go_wp2_with (first
        | (at_builtin; refine wpList_append_own _ rfl _ _ 62 rfl w.heap.size 9 i0 (.string ⟨#[]⟩) 1 16 Tryz.underlying62 hi hz0 hz1 hz2 rfl (by decide) _ k (strs ((List.range k).map T)) rfl ?c0 ⟨w2.heap.size, 0, none⟩ 1 1 [.string (T k)] rfl rfl ?c1 ?c2 ?c3 ?c4 ?c5 ?_)
        | go_in)
      case c0 => exact (owns_below (owns_below HOWN.out ((Below.refl _ _).alloc (Nat.le_refl _) _)) HB2.out).alloc _
      case c1 =>
        intro j u hj
        match j, hj with
        | 0, hj => simp at hj; subst hj; exact Joins.cell_alloc_mark_at _ #[.string (T k)] 9 (0, 0) _ 0 (by simp)
      case c2 => intro u hu; simp at hu; subst hu; rfl
      case c3 => unfold maxLen; omega
      case c4 => omega
      case c5 => have hz2 := HB2.out.size; simp at hz2; simp; omega
      intro v' w4 hown' hgrow _
      have hB1 : Below w.heap.size w w4 := by
        have hz2 := HB2.out.size
        simp at hz2
        refine ((bel_then (HB.out.alloc hbs _) HB2.out).alloc (by omega) _).grown hgrow (by simp; omega) (fun j hj => ?_)
        exact (HOWN.out.lt j hj).1
      have htk : (List.range (k + 1)).map T = (List.range k).map T ++ [T k] := by rw [List.range_succ]; simp
      have hown2 : w4.ownsRow w.heap.size 9 1 v' (k + 1) (strs ((List.range (k + 1)).map T)) := by
        rw [htk]; simpa [strs] using hown'
      have HO := Lib.hid hown2
      have HB4 := Lib.hid hB1
      clear hown' hgrow hown2 hB1 htk z0 z1 z2 z3 z4 HB HB2 HOWN HC hne2 hne3 hlt1 hlt2 hlt3 hlt' hlt
      go_wp2_with fail
      go_roundw
      case rel => exact ⟨k + 1, by omega, by go_num, HO.out, HB4.out⟩
      case measure => simp [intOf]; omega
    · have hkn : k = n := by omega
      subst hkn
      have hd : decide ((k : Int) < (k : Int)) = false := by simp
      have hrow : Row wr u5 ((List.range k).map T).length (strs ((List.range k).map T)) := by
        have := Row.owned hown
        rw [List.length_map, List.length_range]; exact this
      have hjn := strJoin_any _ _ _ hrow (by rw [List.length_map, List.length_range]; omega) HL.out
      have HJ := Lib.hid hjn
      have HB := Lib.hid hbel
      clear hown hrow hjn hbel
      go_wp2_with fail
      refine HJ.out.mono ?_
      rintro e w2 ⟨rfl, hb2⟩
      have HB2 := Lib.hid (bel_then HB.out hb2)
      clear hb2
      go_wp2_with fail
      go_ret
      exact ⟨rfl, HB2.out⟩
end Go.Proofs.YtahckikemljlnaaGreatDoor

namespace Go.Proofs.YtahckikemljlnaaGreatDoor
open Go.RowKit Ru

inductive PT.Shn : PT → Prop
  | mk (k : Int) (ns es : List ByteArray) (l : List PT) (hn : Shorts ns) (he : Shorts es) (h : ∀ (i : Nat) (p : PT), l[i]? = some p → PT.Shn p) : PT.Shn (.mk k ns es l)
theorem PT.Shn.part {e p : PT} {i : Nat} (h : e.Shn) (hp : e.parts[i]? = some p) : p.Shn := by cases h with | mk k ns es l hn he h => exact h i p hp
theorem PT.Okt.of {e : PT} (hs : e.shp = true) (hn : e.Shn) (h : ∀ (i : Nat) (p : PT), e.parts[i]? = some p → p.Okt) : e.Okt := by
  cases hn with
  | mk k ns es l h1 h2 h3 => exact .mk k ns es l hs h1 h2 h
theorem vsp_ok : ∀ (N : Nat) (e : PT), e.size ≤ N → ∀ n d, (e.vsp n d).1 = true → e.Shn → e.Okt ∧ (e.vsp n d).2 = n + e.size ∧ n + e.size ≤ 60 := by
  intro N
  induction N with
  | zero => intro e h; have := e.size_pos; omega
  | succ N ih =>
    intro e hs n d h hn
    rw [PT.vsp_eq] at h ⊢
    split at h
    · cases h
    · rename_i hc
      rw [if_neg hc]
      have hsh : e.shp = true := by
        cases hx : e.shp with
        | false => exact absurd (.inr (.inr hx)) hc
        | true => rfl
      have hsz : e.size = PT.sizes e.parts + 1 := by cases e; rw [PT.size_mk]; rfl
      have all : ∀ (l : List PT) (m : Nat), PT.sizes l ≤ N → (∀ p ∈ l, p.Shn) → m ≤ 60 → (PT.vspL l m (d + 1)).1 = true → (∀ p ∈ l, p.Okt) ∧ (PT.vspL l m (d + 1)).2 = m + PT.sizes l ∧ m + PT.sizes l ≤ 60 := by
        intro l
        induction l with
        | nil => intro m _ _ hm _; rw [PT.vspL_nil, PT.sizes_nil]; exact ⟨fun p hp => by simp at hp, rfl, hm⟩
        | cons a l ihl =>
          intro m hl hsn hm h
          rw [PT.sizes_cons] at hl ⊢
          rw [PT.vspL_cons] at h ⊢
          split at h
          · rename_i ha
            rw [if_pos ha]
            obtain ⟨x1, x2, x3⟩ := ih a (by omega) m (d + 1) ha (hsn a (by simp))
            rw [x2] at h ⊢
            obtain ⟨y1, y2, y3⟩ := ihl (m + a.size) (by omega) (fun p hp => hsn p (by simp [hp])) x3 h
            refine ⟨fun p hp => ?_, by omega, by omega⟩
            rcases List.mem_cons.1 hp with rfl | hp
            · exact x1
            · exact y1 p hp
          · cases h
      obtain ⟨x1, x2, x3⟩ := all e.parts (n + 1) (by omega) (fun p hp => by obtain ⟨i, hi, rfl⟩ := List.getElem_of_mem hp; exact hn.part (List.getElem?_eq_getElem hi)) (by omega) h
      exact ⟨PT.Okt.of hsh hn (fun i p hp => x1 p (List.mem_of_getElem? hp)), by omega, by omega⟩
theorem validB_ok {e : PT} (h : e.validB = true) (hn : e.Shn) : e.Okt ∧ e.size ≤ 60 := by
  have := vsp_ok e.size e (Nat.le_refl _) 0 1 h hn
  exact ⟨this.1, by omega⟩
def patP (e : PT) : ByteArray := if e.validB = true then e.text else ⟨#[]⟩
set_option maxHeartbeats 4000000 in
set_option maxRecDepth 100000 in
theorem prPat_any (e : PT) (nv ev lv : Value) (w : World) (h : PtIs w e nv ev lv) (hf : e.Fit) (hn : e.Shn) :
    Calls Tryz.prog 62 #[.agg #[.int .i64 e.kind, nv, ev, lv]] w fun x w' => x = .returned (.string (patP e)) ∧ Below w.heap.size w w' := by
  have hm := fun w' (hb : Below w.heap.size w w') => prvalid_any e nv ev lv w' (h.moved hb) hf
  have hx := fun (hm : e.validB = true) w' (hb : Below w.heap.size w w') => pat_any e nv ev lv w' (by have := validB_ok hm hn; omega) (validB_ok hm hn).1 (h.moved hb)
  have hp : patP e = if e.validB = true then e.text else ⟨#[]⟩ := rfl
  obtain ⟨⟨o1, q1, rfl⟩, ⟨o3, q3, rfl⟩, ⟨o2, q2, rfl⟩⟩ := h.form
  obtain ⟨m, hmm⟩ : ∃ m, m = e.validB := ⟨_, rfl⟩
  rw [← hmm] at hm hx hp
  obtain ⟨k, hk⟩ : ∃ k, k = e.kind := ⟨_, rfl⟩
  obtain ⟨a, ha⟩ : ∃ a, a = e.names.length := ⟨_, rfl⟩
  obtain ⟨c, hc⟩ : ∃ c, c = e.ends.length := ⟨_, rfl⟩
  obtain ⟨b, hb⟩ : ∃ b, b = e.parts.length := ⟨_, rfl⟩
  rw [← hk, ← ha, ← hb, ← hc] at hm hx ⊢
  have HM := Lib.hid hm
  have HX := Lib.hid hx
  have HP := Lib.hid hp
  clear hm hx hp hmm hk ha hb hc h hf hn
  cases m with
  | false =>
    go_enter Tryz.func62, Tryz.ntmps62
    go_wp2_with fail
    refine (HM.out _ (bel_new (Below.refl _ _) _)).mono ?_
    rintro x w2 ⟨rfl, hb2⟩
    have HB2 := Lib.hid (bel_then (bel_new (Below.refl w.heap.size w) _) hb2)
    clear hb2
    go_wp2_with fail
    go_ret
    exact ⟨by rw [HP.out]; rfl, HB2.out⟩
  | true =>
    go_enter Tryz.func62, Tryz.ntmps62
    go_wp2_with fail
    refine (HM.out _ (bel_new (Below.refl _ _) _)).mono ?_
    rintro x w2 ⟨rfl, hb2⟩
    have HB2 := Lib.hid (bel_then (bel_new (Below.refl w.heap.size w) _) hb2)
    obtain ⟨c0, c1, c2, c3⟩ := cell4_of (box_kept hb2)
    clear hb2
    go_wp2_with fail
    refine (HX.out trivial _ HB2.out).mono ?_
    rintro x w3 ⟨rfl, hb3⟩
    have HB3 := Lib.hid (bel_then HB2.out hb3)
    clear hb3
    go_wp2_with fail
    go_ret
    exact ⟨by rw [HP.out]; rfl, HB3.out⟩
end Go.Proofs.YtahckikemljlnaaGreatDoor

namespace Go.Proofs.YtahckikemljlnaaGreatDoor
open Go.RowKit Ru

def decB (c : Int) : ByteArray := ⟨(Lib.decDigits c.toNat).toArray⟩
theorem decB_size {c : Int} (h : 0 ≤ c ∧ c ≤ 31) : (decB c).size ≤ 2 := by
  have : ∀ n : Nat, n ≤ 31 → (Lib.decDigits n).length ≤ 2 := by decide +kernel
  show (Lib.decDigits c.toNat).toArray.size ≤ 2
  rw [List.size_toArray]
  exact this _ (by omega)
theorem itoa_any (c : Int) (w : World) (h : 0 ≤ c ∧ c ≤ 31) : Calls Tryz.prog 118 #[.int .i64 c] w fun e w' => e = .returned (.string (decB c)) ∧ w' = w := by
  obtain ⟨n, rfl⟩ : ∃ n : Nat, c = n := ⟨c.toNat, by omega⟩
  exact Tryz.strconv_Itoa_small n (by omega) w
def stepB (s : ST) : ByteArray := if 0 < s.calls.length then ((⟨#[32, 94, 32]⟩ ++ brB s.calls) ++ ⟨#[32]⟩) ++ s.p.text else ⟨#[32]⟩ ++ s.p.text
structure StOk (s : ST) : Prop where
  sh : Shorts s.calls
  ok : s.p.Okt
  sz : s.p.size ≤ 60
theorem stepB_size {s : ST} (h : StOk s) : (stepB s).size ≤ 190000000 := by
  have a := pt_size s.p.size s.p (Nat.le_refl _) h.ok
  have b := h.sh.br
  have c := h.sz
  have z1 : (⟨#[32, 94, 32]⟩ : ByteArray).size = 3 := rfl
  have z2 : (⟨#[32]⟩ : ByteArray).size = 1 := rfl
  unfold stepB
  split <;> simp only [ByteArray.size_append] <;> omega
set_option maxHeartbeats 4000000 in
set_option maxRecDepth 100000 in
theorem prStep_any (s : ST) (cv nv ev lv : Value) (w : World) (hs : StOk s) (hc : Row w cv s.calls.length (strs s.calls)) (hp : PtIs w s.p nv ev lv) :
    Calls Tryz.prog 121 #[.agg #[cv, .int .i64 s.p.kind, nv, ev, lv]] w fun x w' => x = .returned (.string (stepB s)) ∧ Below w.heap.size w w' := by
  have h1 := fun w' (hb : Below w.heap.size w w') => braces_any cv s.calls w' (hc.below hb) hs.sh
  have h2 := fun w' (hb : Below w.heap.size w w') => pat_any s.p nv ev lv w' (by have := hs.sz; omega) hs.ok (hp.moved hb)
  have hsb : stepB s = if 0 < s.calls.length then ((⟨#[32, 94, 32]⟩ ++ brB s.calls) ++ ⟨#[32]⟩) ++ s.p.text else ⟨#[32]⟩ ++ s.p.text := rfl
  have a := pt_size s.p.size s.p (Nat.le_refl _) hs.ok
  have b := hs.sh.br
  have c := hs.sz
  obtain ⟨o0, c0, rfl, -⟩ := hc
  obtain ⟨⟨o1, q1, rfl⟩, ⟨o3, q3, rfl⟩, ⟨o2, q2, rfl⟩⟩ := hp.form
  obtain ⟨n, hn⟩ : ∃ n, n = s.calls.length := ⟨_, rfl⟩
  obtain ⟨B, hB⟩ : ∃ B, B = brB s.calls := ⟨_, rfl⟩
  obtain ⟨t, ht⟩ : ∃ t, t = s.p.text := ⟨_, rfl⟩
  obtain ⟨k, hk⟩ : ∃ k, k = s.p.kind := ⟨_, rfl⟩
  obtain ⟨x1, hx1⟩ : ∃ k, k = s.p.names.length := ⟨_, rfl⟩
  obtain ⟨x2, hx2⟩ : ∃ k, k = s.p.ends.length := ⟨_, rfl⟩
  obtain ⟨x3, hx3⟩ : ∃ k, k = s.p.parts.length := ⟨_, rfl⟩
  rw [← hn, ← hB] at h1
  rw [← ht, ← hk, ← hx1, ← hx2, ← hx3] at h2
  rw [← hn, ← hB, ← ht] at hsb
  rw [← ht] at a
  rw [← hB] at b
  rw [← hn, ← hk, ← hx1, ← hx2, ← hx3]
  have HS := Lib.hid hsb
  have H1 := Lib.hid h1
  have H2 := Lib.hid h2
  have hu0 : ¬ 9223372036854775807 < 3 + B.size := by omega
  have hu1 : ¬ 9223372036854775807 < 3 + B.size + 1 := by omega
  have hu2 : ¬ 9223372036854775807 < 3 + B.size + 1 + t.size := by omega
  have hu3 : ¬ 9223372036854775807 < 1 + t.size := by omega
  clear hsb h1 h2 hn hB ht hk hx1 hx2 hx3 hp hs a b c
  by_cases hc : 0 < n
  · have d : decide (0 < n) = true := by simpa using hc
    have HX := Lib.hid (HS.out.trans (if_pos hc))
    clear HS hc
    obtain ⟨W, hW⟩ : ∃ W, W = w.alloc (.cells #[.slice o0 n c0, .int .i64 k, .slice o1 x1 q1, .slice o3 x2 q3, .slice o2 x3 q2] 67) := ⟨_, rfl⟩
    have hbW : Below w.heap.size w W := by rw [hW]; exact (Below.refl _ _).alloc (Nat.le_refl _) _
    have hbx : W.heap[w.heap.size]? = some (.cells #[.slice o0 n c0, .int .i64 k, .slice o1 x1 q1, .slice o3 x2 q3, .slice o2 x3 q2] 67 (0, 0)) := by rw [hW]; exact heap_alloc_new w _
    obtain ⟨ι, K, hne, hkb, hks⟩ := kept_family W
    have hcell : ∀ i, (K i).cell? ⟨w.heap.size, 0, none⟩ = some (.slice o0 n c0) ∧ (K i).cell? ⟨w.heap.size, 1, none⟩ = some (.int .i64 k) ∧ (K i).cell? ⟨w.heap.size, 2, none⟩ = some (.slice o1 x1 q1) ∧ (K i).cell? ⟨w.heap.size, 3, none⟩ = some (.slice o3 x2 q3) ∧ (K i).cell? ⟨w.heap.size, 4, none⟩ = some (.slice o2 x3 q2) := fun i => by
      have := bel_get (hkb i) hbx
      simp [World.cell?, this]
    have KB := Lib.hid hkb
    have kS := hks _ (Below.refl _ _).drew
    have HBW := Lib.hid hbW
    have HW := Lib.hid hW
    have HA := Lib.hid (fun i => calls_kept hkb hks (i := i) (H1.out (K i) (bel_then hbW (hkb i))))
    have HP := Lib.hid (fun i => calls_kept hkb hks (i := i) (H2.out (K i) (bel_then hbW (hkb i))))
    have j0 : ∀ i, (K i).cell? ⟨w.heap.size, 0, none⟩ = some (.slice o0 n c0) := fun i => (hcell i).1
    have j1 : ∀ i, (K i).cell? ⟨w.heap.size, 1, none⟩ = some (.int .i64 k) := fun i => (hcell i).2.1
    have j2 : ∀ i, (K i).cell? ⟨w.heap.size, 2, none⟩ = some (.slice o1 x1 q1) := fun i => (hcell i).2.2.1
    have j3 : ∀ i, (K i).cell? ⟨w.heap.size, 3, none⟩ = some (.slice o3 x2 q3) := fun i => (hcell i).2.2.2.1
    have j4 : ∀ i, (K i).cell? ⟨w.heap.size, 4, none⟩ = some (.slice o2 x3 q2) := fun i => (hcell i).2.2.2.2
    clear hW hbW hbx hkb hks hcell
    go_enter Tryz.func121, Tryz.ntmps121
    go_upto_region 2 with (fail)
    rw [← HW.out]
    refine region_kept K (by kernel_rfl) (by kernel_rfl) kS ?_
    repeat (go_big_quiet_step (with_reducible first | exact HA.out _ | exact HP.out _))
    refine wpQuiet_nil ?_
    rintro _ ⟨iw, rfl⟩
    have HB6 := Lib.hid (bel_then HBW.out (KB.out iw))
    go_wp2_with fail
    go_ret
    exact ⟨by rw [HX.out]; rfl, HB6.out⟩
  · have d : decide (0 < n) = false := by simpa using hc
    have HX := Lib.hid (HS.out.trans (if_neg hc))
    clear HS hc
    go_enter Tryz.func121, Tryz.ntmps121
    go_wp2_with fail
    refine (H2.out _ (bel_new (Below.refl _ _) _)).mono ?_
    rintro x w2 ⟨rfl, hb2⟩
    have HB2 := Lib.hid (bel_then (bel_new (Below.refl w.heap.size w) _) hb2)
    clear hb2
    go_wp2_with fail
    go_ret
    exact ⟨by rw [HX.out]; rfl, HB2.out⟩
end Go.Proofs.YtahckikemljlnaaGreatDoor

namespace Go.Proofs.YtahckikemljlnaaGreatDoor
open Go.RowKit Ru

theorem two_world (k w : World) (o1 o2 : Obj) (h : Below w.heap.size w k) :
    Below w.heap.size w ((k.alloc o1).alloc o2) ∧ ((k.alloc o1).alloc o2).heap[k.heap.size]? = some o1 ∧ ((k.alloc o1).alloc o2).heap[k.heap.size + 1]? = some o2 := by
  have hs := h.size
  refine ⟨(h.alloc hs _).alloc (by simp; omega) _, ?_, ?_⟩
  · rw [Below.heap_alloc _ _ _ (by simp)]
    exact heap_alloc_new k _
  · have := heap_alloc_new (k.alloc o1) o2
    simpa using this
theorem range_getD {α : Type} (d : α) : ∀ l : List α, (List.range l.length).map (fun i => l.getD i d) = l := by
  intro l
  apply List.ext_getElem?
  intro i
  rw [List.getElem?_map]
  by_cases h : i < l.length
  · rw [List.getElem?_range h]; simp [List.getD, h]
  · rw [List.getElem?_eq_none (by simp; omega), List.getElem?_eq_none (by omega)]; rfl
theorem joinSteps_any (l : List ST) (q : Nat) (v : Value) (w : World) (hok : ∀ s ∈ l, StOk s) (hl : l.length ≤ 100) (hv : StsAre w v l)
    (hq0 : w.heap[q]? = some (.cells #[.string ⟨#[]⟩] 9 (0, 0))) (hq1 : w.heap[q + 1]? = some (.cells #[.func (Fn.func 121) #[] #[]] 164 (0, 0))) :
    Calls Tryz.prog 181 #[v, .pointer (some ⟨q + 1, 0, none⟩), .pointer (some ⟨q, 0, none⟩)] w fun e w' => e = .returned (.string (catB (l.map stepB))) ∧ Below w.heap.size w w' := by
  obtain ⟨o, cap, co, cn, cc, kf, no, nn, nc, eo, en, ec, lo, ln, lc, rfl, hall⟩ := hv.all
  have hsz : (catB (l.map stepB)).size ≤ 140737488355328 := by
    have := catB_le 190000000 (l.map stepB) (fun y hy => by
      obtain ⟨x, hx, rfl⟩ := List.mem_map.1 hy
      exact stepB_size (hok x hx))
    rw [List.length_map] at this
    have : 190000000 * l.length ≤ 190000000 * 100 := Nat.mul_le_mul_left _ hl
    omega
  have hr : (List.range l.length).map (fun i => (l.map stepB).getD i ⟨#[]⟩) = l.map stepB := by
    have := range_getD (⟨#[]⟩ : ByteArray) (l.map stepB)
    rwa [List.length_map] at this
  have key := joinedS_any q l.length o cap co cn cc kf no nn nc eo en ec lo ln lc (fun i => (l.map stepB).getD i ⟨#[]⟩) w (by omega) (fun i hi => by
      obtain ⟨_, _, _, b, off, ho, hb, c0, c1, c2, c3, c4⟩ := hall i l[i] (List.getElem?_eq_getElem hi)
      exact ⟨b, off, ho, hb, c0, c1, c2, c3, c4⟩) hq0 hq1 (fun i hi w' hb => by
      obtain ⟨r1, k1, p1, _⟩ := hall i l[i] (List.getElem?_eq_getElem hi)
      have := prStep_any l[i] _ _ _ _ w' (hok _ (List.getElem_mem hi)) (r1.below hb) (p1.moved hb)
      rw [← k1] at this
      have e : (l.map stepB).getD i ⟨#[]⟩ = stepB l[i] := by simp [List.getD, hi]
      simp only [e]
      exact this) (by rw [hr]; exact hsz)
  rw [hr] at key
  exact key
structure RuOk (r : RU) : Prop where
  cl : 0 ≤ r.cls ∧ r.cls ≤ 31
  ln : r.steps.length ≤ 100
  st : ∀ s ∈ r.steps, StOk s
def ruleB (r : RU) : ByteArray := ((if r.free = true then (⟨#[114, 117, 108, 101, 32]⟩ ++ decB r.cls) ++ ⟨#[32, 102, 114, 101, 101]⟩ else ⟨#[114, 117, 108, 101, 32]⟩ ++ decB r.cls) ++ catB (r.steps.map stepB)) ++ ⟨#[10]⟩
theorem steps_size {r : RU} (h : RuOk r) : (catB (r.steps.map stepB)).size ≤ 19000000000 := by
  have := catB_le 190000000 (r.steps.map stepB) (fun y hy => by
    obtain ⟨x, hx, rfl⟩ := List.mem_map.1 hy
    exact stepB_size (h.st x hx))
  rw [List.length_map] at this
  have : 190000000 * r.steps.length ≤ 190000000 * 100 := Nat.mul_le_mul_left _ h.ln
  omega
theorem ruleB_size {r : RU} (h : RuOk r) : (ruleB r).size ≤ 19000000020 := by
  have a := steps_size h
  have b := decB_size h.cl
  have z1 : (⟨#[114, 117, 108, 101, 32]⟩ : ByteArray).size = 5 := rfl
  have z2 : (⟨#[32, 102, 114, 101, 101]⟩ : ByteArray).size = 5 := rfl
  have z3 : (⟨#[10]⟩ : ByteArray).size = 1 := rfl
  unfold ruleB
  split <;> simp only [ByteArray.size_append] <;> omega
set_option maxHeartbeats 4000000 in
set_option maxRecDepth 100000 in
theorem prRule_any (r : RU) (sv : Value) (w : World) (hr : RuOk r) (hs : StsAre w sv r.steps) :
    Calls Tryz.prog 70 #[.agg #[.int .i64 r.cls, .bool r.free, sv]] w fun x w' => x = .returned (.string (ruleB r)) ∧ Below w.heap.size w w' := by
  have h1 := fun w' => itoa_any r.cls w' hr.cl
  have h2 := fun q w' (hb : Below w.heap.size w w') => joinSteps_any r.steps q sv w' hr.st hr.ln (hs.moved hb)
  have a := steps_size hr
  have b := decB_size hr.cl
  have hrb : ruleB r = ((if r.free = true then (⟨#[114, 117, 108, 101, 32]⟩ ++ decB r.cls) ++ ⟨#[32, 102, 114, 101, 101]⟩ else ⟨#[114, 117, 108, 101, 32]⟩ ++ decB r.cls) ++ catB (r.steps.map stepB)) ++ ⟨#[10]⟩ := rfl
  obtain ⟨o, c, rfl⟩ := hs.form
  obtain ⟨n, hn⟩ : ∃ n, n = r.steps.length := ⟨_, rfl⟩
  obtain ⟨C, hC⟩ : ∃ C, C = catB (r.steps.map stepB) := ⟨_, rfl⟩
  obtain ⟨D, hD⟩ : ∃ D, D = decB r.cls := ⟨_, rfl⟩
  obtain ⟨k, hk⟩ : ∃ k, k = r.cls := ⟨_, rfl⟩
  obtain ⟨f, hf⟩ : ∃ f, f = r.free := ⟨_, rfl⟩
  rw [← hD, ← hk] at h1
  rw [← hn, ← hC] at h2
  rw [← hC] at a
  rw [← hD] at b
  rw [← hC, ← hD, ← hf] at hrb
  rw [← hn, ← hk, ← hf]
  have HR := Lib.hid hrb
  have H1 := Lib.hid h1
  have H2 := Lib.hid h2
  have HJ := Lib.hid (fun w' => mkJoinS_any w')
  clear h1 h2 hn hC hD hk hf hs hr hrb
  cases f with
  | true =>
    have hu0 : ¬ 9223372036854775807 < 5 + D.size := by omega
    have hu1 : ¬ 9223372036854775807 < 5 + D.size + 5 := by omega
    have hu2 : ¬ 9223372036854775807 < 5 + D.size + 5 + C.size := by omega
    have hu3 : ¬ 9223372036854775807 < 5 + D.size + 5 + C.size + 1 := by omega
    clear a b
    go_enter Tryz.func70, Tryz.ntmps70
    go_wp2_with fail
    refine (H1.out _).mono ?_
    rintro x w2 ⟨rfl, rfl⟩
    go_wp2_with fail
    refine (HJ.out _).mono ?_
    rintro x w2 ⟨rfl, rfl⟩
    obtain ⟨hb1, x0, x1⟩ := two_world (w.alloc (.cells #[.int .i64 k, .bool true, .slice o n c] 70)) w (.cells #[.string ⟨#[]⟩] 9) (.cells #[.func (Fn.func 121) #[] #[]] 164) (bel_new (Below.refl _ _) _)
    go_wp2_with fail
    refine (H2.out _ _ hb1 (by simpa using x0) (by simpa using x1)).mono ?_
    rintro x w3 ⟨rfl, hb3⟩
    have HB3 := Lib.hid (bel_then hb1 hb3)
    clear hb3 hb1 x0 x1
    go_wp2_with fail
    go_ret
    exact ⟨by rw [HR.out]; rfl, HB3.out⟩
  | false =>
    have hu0 : ¬ 9223372036854775807 < 5 + D.size := by omega
    have hu2 : ¬ 9223372036854775807 < 5 + D.size + C.size := by omega
    have hu3 : ¬ 9223372036854775807 < 5 + D.size + C.size + 1 := by omega
    clear a b
    go_enter Tryz.func70, Tryz.ntmps70
    go_wp2_with fail
    refine (H1.out _).mono ?_
    rintro x w2 ⟨rfl, rfl⟩
    go_wp2_with fail
    refine (HJ.out _).mono ?_
    rintro x w2 ⟨rfl, rfl⟩
    obtain ⟨hb1, x0, x1⟩ := two_world (w.alloc (.cells #[.int .i64 k, .bool false, .slice o n c] 70)) w (.cells #[.string ⟨#[]⟩] 9) (.cells #[.func (Fn.func 121) #[] #[]] 164) (bel_new (Below.refl _ _) _)
    go_wp2_with fail
    refine (H2.out _ _ hb1 (by simpa using x0) (by simpa using x1)).mono ?_
    rintro x w3 ⟨rfl, hb3⟩
    have HB3 := Lib.hid (bel_then hb1 hb3)
    clear hb3 hb1 x0 x1
    go_wp2_with fail
    go_ret
    exact ⟨by rw [HR.out]; rfl, HB3.out⟩
end Go.Proofs.YtahckikemljlnaaGreatDoor

namespace Go.Proofs.YtahckikemljlnaaGreatDoor
open Go.RowKit Ru

def kindB (k : Int) : ByteArray := if k = 0 then ⟨#[105, 110, 116]⟩ else if k = 1 then ⟨#[99, 97, 108, 108]⟩ else ⟨#[114, 101, 116]⟩
def tokB (t : TK) : ByteArray := ((((((((⟨#[116, 111, 107, 32]⟩ ++ t.name) ++ ⟨#[32]⟩) ++ kindB t.kind) ++ ⟨#[32]⟩) ++ decB t.cls) ++ ⟨#[32, 61, 32, 47]⟩) ++ t.re.text) ++ ⟨#[47, 10]⟩)
structure TkOk (t : TK) : Prop where
  nm : t.name.size ≤ 1000
  kd : t.kind = 0 ∨ t.kind = 1 ∨ t.kind = 2
  cl : 0 ≤ t.cls ∧ t.cls ≤ 31
  pr : t.re.prt = true
  sz : t.re.size ≤ 60
theorem kindB_size (k : Int) : (kindB k).size ≤ 4 := by
  unfold kindB
  split
  · show 3 ≤ 4; decide
  · split
    · show 4 ≤ 4; decide
    · show 3 ≤ 4; decide
theorem tokB_size {t : TK} (h : TkOk t) : (tokB t).size ≤ 40000 := by
  have a := re_size t.re.size t.re (Nat.le_refl _) h.pr
  have b := decB_size h.cl
  have c := h.nm
  have d := h.sz
  have e := kindB_size t.kind
  have z1 : (⟨#[116, 111, 107, 32]⟩ : ByteArray).size = 4 := rfl
  have z2 : (⟨#[32]⟩ : ByteArray).size = 1 := rfl
  have z3 : (⟨#[32, 61, 32, 47]⟩ : ByteArray).size = 4 := rfl
  have z4 : (⟨#[47, 10]⟩ : ByteArray).size = 2 := rfl
  unfold tokB
  simp only [ByteArray.size_append]
  omega
set_option maxHeartbeats 8000000 in
set_option maxRecDepth 100000 in
theorem prTok_any (t : TK) (sv lv : Value) (w : World) (ht : TkOk t) (hr : ReIs w t.re sv lv) (hT : TZ w) :
    Calls Tryz.prog 68 #[.agg #[.string t.name, .int .i64 t.kind, .int .i64 t.cls, .int .i64 t.re.kind, sv, lv]] w fun x w' => x = .returned (.string (tokB t)) ∧ Below w.heap.size w w' := by
  have h1 := fun w' => itoa_any t.cls w' ht.cl
  have h2 := fun w' (hb : Below w.heap.size w w') => expr_any t.re sv lv w' (by have := ht.sz; omega) ht.pr (hr.moved hb) (hT.moved hb)
  have a := re_size t.re.size t.re (Nat.le_refl _) ht.pr
  have b := decB_size ht.cl
  have c := ht.nm
  have d := ht.sz
  have htb : tokB t = ((((((((⟨#[116, 111, 107, 32]⟩ ++ t.name) ++ ⟨#[32]⟩) ++ kindB t.kind) ++ ⟨#[32]⟩) ++ decB t.cls) ++ ⟨#[32, 61, 32, 47]⟩) ++ t.re.text) ++ ⟨#[47, 10]⟩) := rfl
  have hkd := ht.kd
  obtain ⟨⟨o1, q1, rfl⟩, ⟨o2, q2, rfl⟩⟩ := hr.form
  obtain ⟨A, hA⟩ : ∃ n, n = t.name := ⟨_, rfl⟩
  obtain ⟨X, hX⟩ : ∃ n, n = t.re.text := ⟨_, rfl⟩
  obtain ⟨D, hD⟩ : ∃ D, D = decB t.cls := ⟨_, rfl⟩
  obtain ⟨kc, hkc⟩ : ∃ k, k = t.cls := ⟨_, rfl⟩
  obtain ⟨kk, hkk⟩ : ∃ k, k = t.kind := ⟨_, rfl⟩
  obtain ⟨rk, hrk⟩ : ∃ k, k = t.re.kind := ⟨_, rfl⟩
  obtain ⟨x1, hx1⟩ : ∃ k, k = t.re.set.length := ⟨_, rfl⟩
  obtain ⟨x2, hx2⟩ : ∃ k, k = t.re.parts.length := ⟨_, rfl⟩
  rw [← hD, ← hkc] at h1
  rw [← hX, ← hrk, ← hx1, ← hx2] at h2
  rw [← hA, ← hX, ← hD, ← hkk] at htb
  rw [← hX] at a
  rw [← hD] at b
  rw [← hA] at c
  rw [← hkk] at hkd
  rw [← hA, ← hkc, ← hkk, ← hrk, ← hx1, ← hx2]
  have HT := Lib.hid htb
  have H1 := Lib.hid h1
  have H2 := Lib.hid h2
  have s1 : X.size ≤ 30000 := by omega
  clear h1 h2 hA hX hD hkc hkk hrk hx1 hx2 ht hr hT htb a d
  rcases hkd with rfl | rfl | rfl
  · have HX := Lib.hid (show tokB t = ((((((((⟨#[116, 111, 107, 32]⟩ ++ A) ++ ⟨#[32]⟩) ++ ⟨#[105, 110, 116]⟩) ++ ⟨#[32]⟩) ++ D) ++ ⟨#[32, 61, 32, 47]⟩) ++ X) ++ ⟨#[47, 10]⟩) from HT.out)
    clear HT
    have hu0 : ¬ 9223372036854775807 < 4 + A.size := by omega
    have hu1 : ¬ 9223372036854775807 < 4 + A.size + 1 := by omega
    have hu2 : ¬ 9223372036854775807 < 4 + A.size + 1 + 3 := by omega
    have hu3 : ¬ 9223372036854775807 < 4 + A.size + 1 + 3 + 1 := by omega
    have hu4 : ¬ 9223372036854775807 < 4 + A.size + 1 + 3 + 1 + D.size := by omega
    have hu5 : ¬ 9223372036854775807 < 4 + A.size + 1 + 3 + 1 + D.size + 4 := by omega
    have hu6 : ¬ 9223372036854775807 < 4 + A.size + 1 + 3 + 1 + D.size + 4 + X.size := by omega
    have hu7 : ¬ 9223372036854775807 < 4 + A.size + 1 + 3 + 1 + D.size + 4 + X.size + 2 := by omega
    clear b c s1
    obtain ⟨W, hW⟩ : ∃ W, W = (w.alloc (.cells #[.string A, .int .i64 0, .int .i64 kc, .int .i64 rk, .slice o1 x1 q1, .slice o2 x2 q2] 61)).alloc (.cells #[.string ⟨#[105, 110, 116]⟩, .string ⟨#[99, 97, 108, 108]⟩, .string ⟨#[114, 101, 116]⟩] 161) := ⟨_, rfl⟩
    obtain ⟨hbW, hbx, hby⟩ := two_world w w (.cells #[.string A, .int .i64 0, .int .i64 kc, .int .i64 rk, .slice o1 x1 q1, .slice o2 x2 q2] 61) (.cells #[.string ⟨#[105, 110, 116]⟩, .string ⟨#[99, 97, 108, 108]⟩, .string ⟨#[114, 101, 116]⟩] 161) (Below.refl _ _)
    rw [← hW] at hbW hbx hby
    obtain ⟨ι, K, hne, hkb, hks⟩ := kept_family W
    have hcell : ∀ i, (K i).cell? ⟨w.heap.size, 0, none⟩ = some (.string A) ∧ (K i).cell? ⟨w.heap.size, 1, none⟩ = some (.int .i64 0) ∧ (K i).cell? ⟨w.heap.size, 2, none⟩ = some (.int .i64 kc) ∧ (K i).cell? ⟨w.heap.size, 3, none⟩ = some (.int .i64 rk) ∧ (K i).cell? ⟨w.heap.size, 4, none⟩ = some (.slice o1 x1 q1) ∧ (K i).cell? ⟨w.heap.size, 5, none⟩ = some (.slice o2 x2 q2) ∧ (K i).cell? ⟨w.heap.size + 1, 0, none⟩ = some (.string ⟨#[105, 110, 116]⟩) := fun i => by
      have g0 := bel_get (hkb i) hbx
      have g1 := bel_get (hkb i) hby
      simp [World.cell?, g0, g1]
    have KB := Lib.hid hkb
    have kS := hks _ (Below.refl _ _).drew
    have HBW := Lib.hid hbW
    have HW := Lib.hid hW
    have HA := Lib.hid (fun i => calls_kept hkb hks (i := i) ((H1.out (K i)).mono (fun e w' h => ⟨h.1, by rw [h.2]; exact Below.refl _ _⟩)))
    have HP := Lib.hid (fun i => calls_kept hkb hks (i := i) (H2.out (K i) (bel_then hbW (hkb i))))
    have j0 : ∀ i, (K i).cell? ⟨w.heap.size, 0, none⟩ = some (.string A) := fun i => (hcell i).1
    have j1 : ∀ i, (K i).cell? ⟨w.heap.size, 1, none⟩ = some (.int .i64 0) := fun i => (hcell i).2.1
    have j2 : ∀ i, (K i).cell? ⟨w.heap.size, 2, none⟩ = some (.int .i64 kc) := fun i => (hcell i).2.2.1
    have j3 : ∀ i, (K i).cell? ⟨w.heap.size, 3, none⟩ = some (.int .i64 rk) := fun i => (hcell i).2.2.2.1
    have j4 : ∀ i, (K i).cell? ⟨w.heap.size, 4, none⟩ = some (.slice o1 x1 q1) := fun i => (hcell i).2.2.2.2.1
    have j5 : ∀ i, (K i).cell? ⟨w.heap.size, 5, none⟩ = some (.slice o2 x2 q2) := fun i => (hcell i).2.2.2.2.2.1
    have j6 : ∀ i, (K i).cell? ⟨w.heap.size + 1, 0, none⟩ = some (.string ⟨#[105, 110, 116]⟩) := fun i => (hcell i).2.2.2.2.2.2
    clear hW hbW hbx hby hkb hks hcell
    go_enter Tryz.func68, Tryz.ntmps68
    go_upto_region 2 with (fail)
    rw [← HW.out]
    refine region_kept K (by kernel_rfl) (by kernel_rfl) kS ?_
    repeat (go_big_quiet_step (with_reducible first | exact HA.out _ | exact HP.out _))
    refine wpQuiet_nil ?_
    rintro _ ⟨iw, rfl⟩
    have HB6 := Lib.hid (bel_then HBW.out (KB.out iw))
    go_wp2_with fail
    go_ret
    exact ⟨by rw [HX.out]; rfl, HB6.out⟩
  · have HX := Lib.hid (show tokB t = ((((((((⟨#[116, 111, 107, 32]⟩ ++ A) ++ ⟨#[32]⟩) ++ ⟨#[99, 97, 108, 108]⟩) ++ ⟨#[32]⟩) ++ D) ++ ⟨#[32, 61, 32, 47]⟩) ++ X) ++ ⟨#[47, 10]⟩) from HT.out)
    clear HT
    have hu0 : ¬ 9223372036854775807 < 4 + A.size := by omega
    have hu1 : ¬ 9223372036854775807 < 4 + A.size + 1 := by omega
    have hu2 : ¬ 9223372036854775807 < 4 + A.size + 1 + 4 := by omega
    have hu3 : ¬ 9223372036854775807 < 4 + A.size + 1 + 4 + 1 := by omega
    have hu4 : ¬ 9223372036854775807 < 4 + A.size + 1 + 4 + 1 + D.size := by omega
    have hu5 : ¬ 9223372036854775807 < 4 + A.size + 1 + 4 + 1 + D.size + 4 := by omega
    have hu6 : ¬ 9223372036854775807 < 4 + A.size + 1 + 4 + 1 + D.size + 4 + X.size := by omega
    have hu7 : ¬ 9223372036854775807 < 4 + A.size + 1 + 4 + 1 + D.size + 4 + X.size + 2 := by omega
    clear b c s1
    obtain ⟨W, hW⟩ : ∃ W, W = (w.alloc (.cells #[.string A, .int .i64 1, .int .i64 kc, .int .i64 rk, .slice o1 x1 q1, .slice o2 x2 q2] 61)).alloc (.cells #[.string ⟨#[105, 110, 116]⟩, .string ⟨#[99, 97, 108, 108]⟩, .string ⟨#[114, 101, 116]⟩] 161) := ⟨_, rfl⟩
    obtain ⟨hbW, hbx, hby⟩ := two_world w w (.cells #[.string A, .int .i64 1, .int .i64 kc, .int .i64 rk, .slice o1 x1 q1, .slice o2 x2 q2] 61) (.cells #[.string ⟨#[105, 110, 116]⟩, .string ⟨#[99, 97, 108, 108]⟩, .string ⟨#[114, 101, 116]⟩] 161) (Below.refl _ _)
    rw [← hW] at hbW hbx hby
    obtain ⟨ι, K, hne, hkb, hks⟩ := kept_family W
    have hcell : ∀ i, (K i).cell? ⟨w.heap.size, 0, none⟩ = some (.string A) ∧ (K i).cell? ⟨w.heap.size, 1, none⟩ = some (.int .i64 1) ∧ (K i).cell? ⟨w.heap.size, 2, none⟩ = some (.int .i64 kc) ∧ (K i).cell? ⟨w.heap.size, 3, none⟩ = some (.int .i64 rk) ∧ (K i).cell? ⟨w.heap.size, 4, none⟩ = some (.slice o1 x1 q1) ∧ (K i).cell? ⟨w.heap.size, 5, none⟩ = some (.slice o2 x2 q2) ∧ (K i).cell? ⟨w.heap.size + 1, 1, none⟩ = some (.string ⟨#[99, 97, 108, 108]⟩) := fun i => by
      have g0 := bel_get (hkb i) hbx
      have g1 := bel_get (hkb i) hby
      simp [World.cell?, g0, g1]
    have KB := Lib.hid hkb
    have kS := hks _ (Below.refl _ _).drew
    have HBW := Lib.hid hbW
    have HW := Lib.hid hW
    have HA := Lib.hid (fun i => calls_kept hkb hks (i := i) ((H1.out (K i)).mono (fun e w' h => ⟨h.1, by rw [h.2]; exact Below.refl _ _⟩)))
    have HP := Lib.hid (fun i => calls_kept hkb hks (i := i) (H2.out (K i) (bel_then hbW (hkb i))))
    have j0 : ∀ i, (K i).cell? ⟨w.heap.size, 0, none⟩ = some (.string A) := fun i => (hcell i).1
    have j1 : ∀ i, (K i).cell? ⟨w.heap.size, 1, none⟩ = some (.int .i64 1) := fun i => (hcell i).2.1
    have j2 : ∀ i, (K i).cell? ⟨w.heap.size, 2, none⟩ = some (.int .i64 kc) := fun i => (hcell i).2.2.1
    have j3 : ∀ i, (K i).cell? ⟨w.heap.size, 3, none⟩ = some (.int .i64 rk) := fun i => (hcell i).2.2.2.1
    have j4 : ∀ i, (K i).cell? ⟨w.heap.size, 4, none⟩ = some (.slice o1 x1 q1) := fun i => (hcell i).2.2.2.2.1
    have j5 : ∀ i, (K i).cell? ⟨w.heap.size, 5, none⟩ = some (.slice o2 x2 q2) := fun i => (hcell i).2.2.2.2.2.1
    have j6 : ∀ i, (K i).cell? ⟨w.heap.size + 1, 1, none⟩ = some (.string ⟨#[99, 97, 108, 108]⟩) := fun i => (hcell i).2.2.2.2.2.2
    clear hW hbW hbx hby hkb hks hcell
    go_enter Tryz.func68, Tryz.ntmps68
    go_upto_region 2 with (fail)
    rw [← HW.out]
    refine region_kept K (by kernel_rfl) (by kernel_rfl) kS ?_
    repeat (go_big_quiet_step (with_reducible first | exact HA.out _ | exact HP.out _))
    refine wpQuiet_nil ?_
    rintro _ ⟨iw, rfl⟩
    have HB6 := Lib.hid (bel_then HBW.out (KB.out iw))
    go_wp2_with fail
    go_ret
    exact ⟨by rw [HX.out]; rfl, HB6.out⟩
  · have HX := Lib.hid (show tokB t = ((((((((⟨#[116, 111, 107, 32]⟩ ++ A) ++ ⟨#[32]⟩) ++ ⟨#[114, 101, 116]⟩) ++ ⟨#[32]⟩) ++ D) ++ ⟨#[32, 61, 32, 47]⟩) ++ X) ++ ⟨#[47, 10]⟩) from HT.out)
    clear HT
    have hu0 : ¬ 9223372036854775807 < 4 + A.size := by omega
    have hu1 : ¬ 9223372036854775807 < 4 + A.size + 1 := by omega
    have hu2 : ¬ 9223372036854775807 < 4 + A.size + 1 + 3 := by omega
    have hu3 : ¬ 9223372036854775807 < 4 + A.size + 1 + 3 + 1 := by omega
    have hu4 : ¬ 9223372036854775807 < 4 + A.size + 1 + 3 + 1 + D.size := by omega
    have hu5 : ¬ 9223372036854775807 < 4 + A.size + 1 + 3 + 1 + D.size + 4 := by omega
    have hu6 : ¬ 9223372036854775807 < 4 + A.size + 1 + 3 + 1 + D.size + 4 + X.size := by omega
    have hu7 : ¬ 9223372036854775807 < 4 + A.size + 1 + 3 + 1 + D.size + 4 + X.size + 2 := by omega
    clear b c s1
    obtain ⟨W, hW⟩ : ∃ W, W = (w.alloc (.cells #[.string A, .int .i64 2, .int .i64 kc, .int .i64 rk, .slice o1 x1 q1, .slice o2 x2 q2] 61)).alloc (.cells #[.string ⟨#[105, 110, 116]⟩, .string ⟨#[99, 97, 108, 108]⟩, .string ⟨#[114, 101, 116]⟩] 161) := ⟨_, rfl⟩
    obtain ⟨hbW, hbx, hby⟩ := two_world w w (.cells #[.string A, .int .i64 2, .int .i64 kc, .int .i64 rk, .slice o1 x1 q1, .slice o2 x2 q2] 61) (.cells #[.string ⟨#[105, 110, 116]⟩, .string ⟨#[99, 97, 108, 108]⟩, .string ⟨#[114, 101, 116]⟩] 161) (Below.refl _ _)
    rw [← hW] at hbW hbx hby
    obtain ⟨ι, K, hne, hkb, hks⟩ := kept_family W
    have hcell : ∀ i, (K i).cell? ⟨w.heap.size, 0, none⟩ = some (.string A) ∧ (K i).cell? ⟨w.heap.size, 1, none⟩ = some (.int .i64 2) ∧ (K i).cell? ⟨w.heap.size, 2, none⟩ = some (.int .i64 kc) ∧ (K i).cell? ⟨w.heap.size, 3, none⟩ = some (.int .i64 rk) ∧ (K i).cell? ⟨w.heap.size, 4, none⟩ = some (.slice o1 x1 q1) ∧ (K i).cell? ⟨w.heap.size, 5, none⟩ = some (.slice o2 x2 q2) ∧ (K i).cell? ⟨w.heap.size + 1, 2, none⟩ = some (.string ⟨#[114, 101, 116]⟩) := fun i => by
      have g0 := bel_get (hkb i) hbx
      have g1 := bel_get (hkb i) hby
      simp [World.cell?, g0, g1]
    have KB := Lib.hid hkb
    have kS := hks _ (Below.refl _ _).drew
    have HBW := Lib.hid hbW
    have HW := Lib.hid hW
    have HA := Lib.hid (fun i => calls_kept hkb hks (i := i) ((H1.out (K i)).mono (fun e w' h => ⟨h.1, by rw [h.2]; exact Below.refl _ _⟩)))
    have HP := Lib.hid (fun i => calls_kept hkb hks (i := i) (H2.out (K i) (bel_then hbW (hkb i))))
    have j0 : ∀ i, (K i).cell? ⟨w.heap.size, 0, none⟩ = some (.string A) := fun i => (hcell i).1
    have j1 : ∀ i, (K i).cell? ⟨w.heap.size, 1, none⟩ = some (.int .i64 2) := fun i => (hcell i).2.1
    have j2 : ∀ i, (K i).cell? ⟨w.heap.size, 2, none⟩ = some (.int .i64 kc) := fun i => (hcell i).2.2.1
    have j3 : ∀ i, (K i).cell? ⟨w.heap.size, 3, none⟩ = some (.int .i64 rk) := fun i => (hcell i).2.2.2.1
    have j4 : ∀ i, (K i).cell? ⟨w.heap.size, 4, none⟩ = some (.slice o1 x1 q1) := fun i => (hcell i).2.2.2.2.1
    have j5 : ∀ i, (K i).cell? ⟨w.heap.size, 5, none⟩ = some (.slice o2 x2 q2) := fun i => (hcell i).2.2.2.2.2.1
    have j6 : ∀ i, (K i).cell? ⟨w.heap.size + 1, 2, none⟩ = some (.string ⟨#[114, 101, 116]⟩) := fun i => (hcell i).2.2.2.2.2.2
    clear hW hbW hbx hby hkb hks hcell
    go_enter Tryz.func68, Tryz.ntmps68
    go_upto_region 2 with (fail)
    rw [← HW.out]
    refine region_kept K (by kernel_rfl) (by kernel_rfl) kS ?_
    repeat (go_big_quiet_step (with_reducible first | exact HA.out _ | exact HP.out _))
    refine wpQuiet_nil ?_
    rintro _ ⟨iw, rfl⟩
    have HB6 := Lib.hid (bel_then HBW.out (KB.out iw))
    go_wp2_with fail
    go_ret
    exact ⟨by rw [HX.out]; rfl, HB6.out⟩
end Go.Proofs.YtahckikemljlnaaGreatDoor

namespace Go.Proofs.YtahckikemljlnaaGreatDoor
open Go.RowKit Ru

namespace RE
mutual
def nn : RE → Bool
  | .mk k s l => decide (k = 0) || nnL l
def nnL : List RE → Bool
  | [] => false
  | e :: l => nn e || nnL l
end
theorem nn_eq (e : RE) : e.nn = (decide (e.kind = 0) || nnL e.parts) := by cases e; rw [nn]; rfl
theorem nnL_iff (l : List RE) : nnL l = true ↔ ∃ e ∈ l, e.nn = true := by
  induction l with
  | nil => rw [nnL]; simp
  | cons a l ih => rw [nnL, Bool.or_eq_true, ih]; simp
theorem nnL_not {l : List RE} (h : ∀ i, i < l.length → ∀ p, l[i]? = some p → p.nn = false) : nnL l = false := by
  cases hb : nnL l with
  | false => rfl
  | true =>
    obtain ⟨e, he, h1⟩ := (nnL_iff l).1 hb
    obtain ⟨i, hi, rfl⟩ := List.getElem_of_mem he
    rw [h i hi _ (List.getElem?_eq_getElem hi)] at h1
    cases h1
end RE

set_option maxHeartbeats 4000000 in
set_option maxRecDepth 100000 in
theorem prNone_index (n : Nat) (o : Option Addr) (cap : Nat) (c0 c1 c2 : Nat → Value) (St : Nat → World → Prop) (Fin : Nat → World → Prop) (w : World) (hn : n ≤ 1000000)
    (hel : ∀ i, i < n → ∃ b off, o = some ⟨b, off, none⟩ ∧ ∀ w', St i w' → w'.cell? ⟨b, off + i * 3, none⟩ = some (c0 i) ∧ w'.cell? ⟨b, off + i * 3 + 1, none⟩ = some (c1 i) ∧ w'.cell? ⟨b, off + i * 3 + 2, none⟩ = some (c2 i))
    (hf : ∀ i w', i < n → St i w' → Calls Tryz.prog 66 #[.agg #[c0 i, c1 i, c2 i]] w' fun e w'' => (e = .returned (.bool true) ∧ Fin i w'') ∨ (e = .returned (.bool false) ∧ St (i + 1) w''))
    (h0 : St 0 w) :
    Calls Tryz.prog 125 #[.slice o n cap, .func (Fn.func 66) #[] #[]] w fun e w' => (∃ i : Nat, i < n ∧ e = .returned (.int .i64 i) ∧ Fin i w') ∨ (e = .returned (.int .i64 (-1)) ∧ St n w') := by
  have HEL := Lib.hid hel
  have HF := Lib.hid hf
  clear hel hf
  go_enter Tryz.func125, Tryz.ntmps125
  go_wp2_with fail
  go_loopg [8] n (fun g i wx => ∃ k : Nat, k + g = n ∧ i = .int .i64 k ∧ St k wx)
  case atStart => exact ⟨0, by omega, rfl, h0⟩
  case round =>
    obtain ⟨k, hkg, rfl, hSt⟩ := hrel
    obtain ⟨wo, rfl⟩ : ∃ wo : World, wo = wr := ⟨_, rfl⟩
    cases gk with
    | zero =>
      obtain rfl : k = n := by omega
      have hd : decide ((k : Int) < (k : Int)) = false := by simp
      have HS := Lib.hid hSt
      clear hSt
      go_wp2
      go_ret
      exact .inr ⟨rfl, HS.out⟩
    | succ g =>
      have hk : k < n := by omega
      have hd : decide ((k : Int) < (n : Int)) = true := by simp; omega
      have hk1 : (0 : Int) ≤ (k : Int) := by omega
      have hk2 : (k : Int) < (n : Int) := by omega
      have hk9 : (k : Int) ≤ 1000000 := by omega
      obtain ⟨b, off, rfl, hcell⟩ := HEL.out k hk
      obtain ⟨k0, k1, k2⟩ := hcell wo hSt
      have hc := HF.out k wo hk hSt
      obtain ⟨d0, hd0⟩ : ∃ d, d = c0 k := ⟨_, rfl⟩
      rw [← hd0] at k0 hc
      clear hd0
      obtain ⟨d1, hd1⟩ : ∃ d, d = c1 k := ⟨_, rfl⟩
      rw [← hd1] at k1 hc
      clear hd1
      obtain ⟨d2, hd2⟩ : ∃ d, d = c2 k := ⟨_, rfl⟩
      rw [← hd2] at k2 hc
      clear hd2
      have HC := Lib.hid hc
      clear hcell hSt hc
      go_wp2_with fail
      refine HC.out.mono ?_
      rintro e w2 (⟨rfl, hfin⟩ | ⟨rfl, hst⟩)
      · have HX := Lib.hid hfin
        clear hfin
        go_wp2
        go_ret
        exact .inl ⟨k, hk, rfl, HX.out⟩
      · have HX := Lib.hid hst
        clear hst
        go_wp2
        go_roundg g
        case measure => omega
        case rel => exact ⟨k + 1, by omega, by go_num, HX.out⟩

set_option maxHeartbeats 4000000 in
set_option maxRecDepth 100000 in
theorem prNone_contains (n : Nat) (o : Option Addr) (cap : Nat) (c0 c1 c2 : Nat → Value) (St : Nat → World → Prop) (Fin : Nat → World → Prop) (w : World) (hn : n ≤ 1000000)
    (hel : ∀ i, i < n → ∃ b off, o = some ⟨b, off, none⟩ ∧ ∀ w', St i w' → w'.cell? ⟨b, off + i * 3, none⟩ = some (c0 i) ∧ w'.cell? ⟨b, off + i * 3 + 1, none⟩ = some (c1 i) ∧ w'.cell? ⟨b, off + i * 3 + 2, none⟩ = some (c2 i))
    (hf : ∀ i w', i < n → St i w' → Calls Tryz.prog 66 #[.agg #[c0 i, c1 i, c2 i]] w' fun e w'' => (e = .returned (.bool true) ∧ Fin i w'') ∨ (e = .returned (.bool false) ∧ St (i + 1) w''))
    (h0 : St 0 w) :
    Calls Tryz.prog 75 #[.slice o n cap, .func (Fn.func 66) #[] #[]] w fun e w' => (∃ i : Nat, i < n ∧ e = .returned (.bool true) ∧ Fin i w') ∨ (e = .returned (.bool false) ∧ St n w') := by
  have hc := prNone_index n o cap c0 c1 c2 St Fin w hn hel hf h0
  have HC := Lib.hid hc
  clear hc hf hel
  go_enter Tryz.func75, Tryz.ntmps75
  go_wp2_with fail
  refine HC.out.mono ?_
  rintro e w2 (⟨i, hi, rfl, hfin⟩ | ⟨rfl, hst⟩)
  · have HX := Lib.hid hfin
    have hi0 : decide ((0 : Int) ≤ (i : Int)) = true := by simp
    have hi9 : (i : Int) ≤ 1000000 := by omega
    clear hfin
    go_wp2
    go_ret
    exact .inl ⟨i, hi, rfl, HX.out⟩
  · have HX := Lib.hid hst
    clear hst
    go_wp2
    go_ret
    exact .inr ⟨rfl, HX.out⟩

set_option maxHeartbeats 4000000 in
set_option maxRecDepth 100000 in
theorem hasNone_all : ∀ (N : Nat) (e : RE) (sv lv : Value) (w : World), e.size ≤ N → e.Fit → ReIs w e sv lv →
    Calls Tryz.prog 66 #[.agg #[.int .i64 e.kind, sv, lv]] w fun x w' => x = .returned (.bool e.nn) ∧ Below w.heap.size w w' := by
  intro N
  induction N with
  | zero => intro e sv lv w h; have := e.size_pos; omega
  | succ N ih =>
    intro e sv lv w hs hf hr
    obtain ⟨⟨o1, q1, rfl⟩, -⟩ := hr.form
    obtain ⟨o2, q2, c1, c2, rfl, hall⟩ := hr.all
    have hm1 := hf.sets
    have hnn := e.nn_eq
    by_cases h0 : e.kind = 0
    · rw [h0] at hnn ⊢
      have HX := Lib.hid (show e.nn = true by rw [hnn]; rfl)
      obtain ⟨a, ha⟩ : ∃ a, a = e.set.length := ⟨_, rfl⟩
      obtain ⟨b, hb⟩ : ∃ b, b = e.parts.length := ⟨_, rfl⟩
      rw [← ha, ← hb]
      clear ha hb hnn hall hr hf hm1 ih hs h0
      go_enter Tryz.func66, Tryz.ntmps66
      go_wp2_with fail
      go_ret
      exact ⟨by rw [HX.out]; rfl, bel_new (Below.refl _ _) _⟩
    · have hc := fun w' (hb : Below w.heap.size w w') => prNone_contains e.parts.length o2 q2 (fun i => .int .i64 (e.parts.getD i e).kind) c1 c2
        (fun i w'' => Below w.heap.size w w'' ∧ Below w'.heap.size w' w'' ∧ ∀ j, j < i → ∀ p, e.parts[j]? = some p → p.nn = false)
        (fun i w'' => Below w'.heap.size w' w'' ∧ ∃ p, e.parts[i]? = some p ∧ p.nn = true)
        w' (by omega) (fun i hi => by
          obtain ⟨p, hp⟩ : ∃ p, e.parts[i]? = some p := ⟨e.parts[i], List.getElem?_eq_getElem hi⟩
          obtain ⟨hrp, b, off, rfl, hbl, k0, k1, k2⟩ := hall i p hp
          have hg : e.parts.getD i e = p := by rw [List.getD, hp]; rfl
          refine ⟨b, off, rfl, fun w'' hSt => ?_⟩
          rw [hg]
          exact ⟨(hSt.1.cell hbl).trans k0, (hSt.1.cell hbl).trans k1, (hSt.1.cell hbl).trans k2⟩) (fun i w'' hi hSt => by
          obtain ⟨hb1, hb2, hno⟩ := hSt
          obtain ⟨p, hp⟩ : ∃ p, e.parts[i]? = some p := ⟨e.parts[i], List.getElem?_eq_getElem hi⟩
          have hg : e.parts.getD i e = p := by rw [List.getD, hp]; rfl
          have hsz := RE.size_part hp
          rw [hg]
          refine (ih p (c1 i) (c2 i) w'' (by omega) (hf.part hp) ((hall i p hp).1.moved hb1)).mono ?_
          rintro x w4 ⟨rfl, hb4⟩
          cases hn : p.nn with
          | true => exact .inl ⟨rfl, bel_then hb2 hb4, p, hp, hn⟩
          | false =>
            refine .inr ⟨rfl, bel_then hb1 hb4, bel_then hb2 hb4, fun j hj p' hp' => ?_⟩
            rcases Nat.lt_or_ge j i with h | h
            · exact hno j h p' hp'
            · obtain rfl : j = i := by omega
              rw [hp] at hp'; cases hp'; exact hn) ⟨hb, Below.refl _ _, fun j hj => by omega⟩
      have hd : (e.kind == 0) = false := by simpa using h0
      have HC := Lib.hid (fun w' hb => (hc w' hb).mono (R' := fun x w'' => x = .returned (.bool e.nn) ∧ Below w'.heap.size w' w'') (by
        rintro x w5 (⟨i, hi, rfl, hb5, p, hp, hn⟩ | ⟨rfl, -, hb5, hno⟩)
        · refine ⟨?_, hb5⟩
          rw [hnn, (RE.nnL_iff e.parts).2 ⟨p, List.mem_of_getElem? hp, hn⟩, Bool.or_true]
        · refine ⟨?_, hb5⟩
          rw [hnn, RE.nnL_not hno]
          simp [h0]))
      obtain ⟨a, ha⟩ : ∃ a, a = e.set.length := ⟨_, rfl⟩
      obtain ⟨b, hb⟩ : ∃ b, b = e.parts.length := ⟨_, rfl⟩
      obtain ⟨k, hk⟩ : ∃ b, b = e.kind := ⟨_, rfl⟩
      obtain ⟨r, hr'⟩ : ∃ b, b = e.nn := ⟨_, rfl⟩
      rw [← hb, ← hr'] at HC
      rw [← hk] at hd
      rw [← ha, ← hb, ← hk, ← hr']
      clear ha hb hk hr' hnn hall hr hf hm1 ih hs h0 hc
      go_enter Tryz.func66, Tryz.ntmps66
      go_wp2_with fail
      refine (HC.out _ (bel_new (Below.refl _ _) _)).mono ?_
      rintro x w2 ⟨rfl, hb2⟩
      have HB2 := Lib.hid (bel_then (bel_new (Below.refl w.heap.size w) _) hb2)
      clear hb2
      go_wp2_with fail
      go_ret
      exact ⟨rfl, HB2.out⟩
set_option maxHeartbeats 4000000 in
set_option maxRecDepth 100000 in
theorem src1_any (nm : ByteArray) (kd cl : Int) (e : RE) (sv lv : Value) (w : World) (hf : e.Fit) (hr : ReIs w e sv lv) :
    Calls Tryz.prog 65 #[.agg #[.string nm, .int .i64 kd, .int .i64 cl, .int .i64 e.kind, sv, lv]] w fun x w' => x = .returned (.bool e.nn) ∧ Below w.heap.size w w' := by
  have hc := fun w' (hb : Below w.heap.size w w') => hasNone_all e.size e sv lv w' (Nat.le_refl _) hf (hr.moved hb)
  obtain ⟨⟨o1, q1, rfl⟩, ⟨o2, q2, rfl⟩⟩ := hr.form
  have HC := Lib.hid hc
  obtain ⟨a, ha⟩ : ∃ a, a = e.set.length := ⟨_, rfl⟩
  obtain ⟨b, hb⟩ : ∃ b, b = e.parts.length := ⟨_, rfl⟩
  rw [← ha, ← hb] at HC ⊢
  clear hc hr hf ha hb
  go_enter Tryz.func65, Tryz.ntmps65
  go_wp2_with fail
  refine (HC.out _ (bel_new (Below.refl _ _) _)).mono ?_
  rintro x w2 ⟨rfl, hb2⟩
  have HB2 := Lib.hid (bel_then (bel_new (Below.refl w.heap.size w) _) hb2)
  clear hb2
  go_wp2_with fail
  go_ret
  exact ⟨rfl, HB2.out⟩

set_option maxHeartbeats 4000000 in
set_option maxRecDepth 100000 in
theorem prTokn_index (n : Nat) (o : Option Addr) (cap : Nat) (c0 c1 c2 c3 c4 c5 : Nat → Value) (St : Nat → World → Prop) (Fin : Nat → World → Prop) (w : World) (hn : n ≤ 1000000)
    (hel : ∀ i, i < n → ∃ b off, o = some ⟨b, off, none⟩ ∧ ∀ w', St i w' → w'.cell? ⟨b, off + i * 6, none⟩ = some (c0 i) ∧ w'.cell? ⟨b, off + i * 6 + 1, none⟩ = some (c1 i) ∧ w'.cell? ⟨b, off + i * 6 + 2, none⟩ = some (c2 i) ∧ w'.cell? ⟨b, off + i * 6 + 3, none⟩ = some (c3 i) ∧ w'.cell? ⟨b, off + i * 6 + 4, none⟩ = some (c4 i) ∧ w'.cell? ⟨b, off + i * 6 + 5, none⟩ = some (c5 i))
    (hf : ∀ i w', i < n → St i w' → Calls Tryz.prog 65 #[.agg #[c0 i, c1 i, c2 i, c3 i, c4 i, c5 i]] w' fun e w'' => (e = .returned (.bool true) ∧ Fin i w'') ∨ (e = .returned (.bool false) ∧ St (i + 1) w''))
    (h0 : St 0 w) :
    Calls Tryz.prog 115 #[.slice o n cap, .func (Fn.func 65) #[] #[]] w fun e w' => (∃ i : Nat, i < n ∧ e = .returned (.int .i64 i) ∧ Fin i w') ∨ (e = .returned (.int .i64 (-1)) ∧ St n w') := by
  have HEL := Lib.hid hel
  have HF := Lib.hid hf
  clear hel hf
  go_enter Tryz.func115, Tryz.ntmps115
  go_wp2_with fail
  go_loopg [8] n (fun g i wx => ∃ k : Nat, k + g = n ∧ i = .int .i64 k ∧ St k wx)
  case atStart => exact ⟨0, by omega, rfl, h0⟩
  case round =>
    obtain ⟨k, hkg, rfl, hSt⟩ := hrel
    obtain ⟨wo, rfl⟩ : ∃ wo : World, wo = wr := ⟨_, rfl⟩
    cases gk with
    | zero =>
      obtain rfl : k = n := by omega
      have hd : decide ((k : Int) < (k : Int)) = false := by simp
      have HS := Lib.hid hSt
      clear hSt
      go_wp2
      go_ret
      exact .inr ⟨rfl, HS.out⟩
    | succ g =>
      have hk : k < n := by omega
      have hd : decide ((k : Int) < (n : Int)) = true := by simp; omega
      have hk1 : (0 : Int) ≤ (k : Int) := by omega
      have hk2 : (k : Int) < (n : Int) := by omega
      have hk9 : (k : Int) ≤ 1000000 := by omega
      obtain ⟨b, off, rfl, hcell⟩ := HEL.out k hk
      obtain ⟨k0, k1, k2, k3, k4, k5⟩ := hcell wo hSt
      have hc := HF.out k wo hk hSt
      obtain ⟨d0, hd0⟩ : ∃ d, d = c0 k := ⟨_, rfl⟩
      rw [← hd0] at k0 hc
      clear hd0
      obtain ⟨d1, hd1⟩ : ∃ d, d = c1 k := ⟨_, rfl⟩
      rw [← hd1] at k1 hc
      clear hd1
      obtain ⟨d2, hd2⟩ : ∃ d, d = c2 k := ⟨_, rfl⟩
      rw [← hd2] at k2 hc
      clear hd2
      obtain ⟨d3, hd3⟩ : ∃ d, d = c3 k := ⟨_, rfl⟩
      rw [← hd3] at k3 hc
      clear hd3
      obtain ⟨d4, hd4⟩ : ∃ d, d = c4 k := ⟨_, rfl⟩
      rw [← hd4] at k4 hc
      clear hd4
      obtain ⟨d5, hd5⟩ : ∃ d, d = c5 k := ⟨_, rfl⟩
      rw [← hd5] at k5 hc
      clear hd5
      have HC := Lib.hid hc
      clear hcell hSt hc
      go_wp2_with fail
      refine HC.out.mono ?_
      rintro e w2 (⟨rfl, hfin⟩ | ⟨rfl, hst⟩)
      · have HX := Lib.hid hfin
        clear hfin
        go_wp2
        go_ret
        exact .inl ⟨k, hk, rfl, HX.out⟩
      · have HX := Lib.hid hst
        clear hst
        go_wp2
        go_roundg g
        case measure => omega
        case rel => exact ⟨k + 1, by omega, by go_num, HX.out⟩

set_option maxHeartbeats 4000000 in
set_option maxRecDepth 100000 in
theorem prTokn_contains (n : Nat) (o : Option Addr) (cap : Nat) (c0 c1 c2 c3 c4 c5 : Nat → Value) (St : Nat → World → Prop) (Fin : Nat → World → Prop) (w : World) (hn : n ≤ 1000000)
    (hel : ∀ i, i < n → ∃ b off, o = some ⟨b, off, none⟩ ∧ ∀ w', St i w' → w'.cell? ⟨b, off + i * 6, none⟩ = some (c0 i) ∧ w'.cell? ⟨b, off + i * 6 + 1, none⟩ = some (c1 i) ∧ w'.cell? ⟨b, off + i * 6 + 2, none⟩ = some (c2 i) ∧ w'.cell? ⟨b, off + i * 6 + 3, none⟩ = some (c3 i) ∧ w'.cell? ⟨b, off + i * 6 + 4, none⟩ = some (c4 i) ∧ w'.cell? ⟨b, off + i * 6 + 5, none⟩ = some (c5 i))
    (hf : ∀ i w', i < n → St i w' → Calls Tryz.prog 65 #[.agg #[c0 i, c1 i, c2 i, c3 i, c4 i, c5 i]] w' fun e w'' => (e = .returned (.bool true) ∧ Fin i w'') ∨ (e = .returned (.bool false) ∧ St (i + 1) w''))
    (h0 : St 0 w) :
    Calls Tryz.prog 64 #[.slice o n cap, .func (Fn.func 65) #[] #[]] w fun e w' => (∃ i : Nat, i < n ∧ e = .returned (.bool true) ∧ Fin i w') ∨ (e = .returned (.bool false) ∧ St n w') := by
  have hc := prTokn_index n o cap c0 c1 c2 c3 c4 c5 St Fin w hn hel hf h0
  have HC := Lib.hid hc
  clear hc hf hel
  go_enter Tryz.func64, Tryz.ntmps64
  go_wp2_with fail
  refine HC.out.mono ?_
  rintro e w2 (⟨i, hi, rfl, hfin⟩ | ⟨rfl, hst⟩)
  · have HX := Lib.hid hfin
    have hi0 : decide ((0 : Int) ≤ (i : Int)) = true := by simp
    have hi9 : (i : Int) ≤ 1000000 := by omega
    clear hfin
    go_wp2
    go_ret
    exact .inl ⟨i, hi, rfl, HX.out⟩
  · have HX := Lib.hid hst
    clear hst
    go_wp2
    go_ret
    exact .inr ⟨rfl, HX.out⟩

def nnT (T : List TK) : Bool := T.any fun t => t.re.nn
theorem tokNone_any (T : List TK) (v : Value) (w : World) (hT : TksAre w v T) (hTl : T.length ≤ 1000) (hf : TFit T) :
    Calls Tryz.prog 64 #[v, .func (Fn.func 65) #[] #[]] w fun x w' => x = .returned (.bool (nnT T)) ∧ Below w.heap.size w w' := by
  obtain ⟨o, cap, nm, kd, cl, rk, so, sn, sc, lo, ln, lc, rfl, hall⟩ := hT.all
  refine (prTokn_contains T.length o cap (fun i => .string (nm i)) (fun i => .int .i64 (kd i)) (fun i => .int .i64 (cl i)) (fun i => .int .i64 (rk i)) (fun i => .slice (so i) (sn i) (sc i)) (fun i => .slice (lo i) (ln i) (lc i))
        (fun i w'' => Below w.heap.size w w'' ∧ ∀ j, j < i → ∀ t, T[j]? = some t → t.re.nn = false)
        (fun i w'' => Below w.heap.size w w'' ∧ ∃ t, T[i]? = some t ∧ t.re.nn = true)
        w (by omega) (fun i hi => by
          obtain ⟨_, _, _, _, _, b, off, rfl, hbl, k0, k1, k2, k3, k4, k5⟩ := hall i T[i] (List.getElem?_eq_getElem hi)
          refine ⟨b, off, rfl, fun w'' hSt => ?_⟩
          exact ⟨(hSt.1.cell hbl).trans k0, (hSt.1.cell hbl).trans k1, (hSt.1.cell hbl).trans k2, (hSt.1.cell hbl).trans k3, (hSt.1.cell hbl).trans k4, (hSt.1.cell hbl).trans k5⟩) (fun i w'' hi hSt => by
          obtain ⟨hb1, hno⟩ := hSt
          obtain ⟨_, _, _, hk, hre, _⟩ := hall i T[i] (List.getElem?_eq_getElem hi)
          have := src1_any (nm i) (kd i) (cl i) T[i].re _ _ w'' (hf i _ (List.getElem?_eq_getElem hi)).2 (hre.moved hb1)
          rw [← hk] at this
          refine this.mono ?_
          rintro x w4 ⟨rfl, hb4⟩
          cases hn : T[i].re.nn with
          | true => exact .inl ⟨rfl, bel_then hb1 hb4, T[i], List.getElem?_eq_getElem hi, hn⟩
          | false =>
            refine .inr ⟨rfl, bel_then hb1 hb4, fun j hj p' hp' => ?_⟩
            rcases Nat.lt_or_ge j i with h | h
            · exact hno j h p' hp'
            · obtain rfl : j = i := by omega
              rw [List.getElem?_eq_getElem hi] at hp'; cases hp'; exact hn) ⟨Below.refl _ _, fun j hj => by omega⟩).mono ?_
  rintro x w5 (⟨i, hi, rfl, hb5, p, hp, hn⟩ | ⟨rfl, hb5, hno⟩)
  · refine ⟨?_, hb5⟩
    have : nnT T = true := by unfold nnT; rw [List.any_eq_true]; exact ⟨p, List.mem_of_getElem? hp, hn⟩
    rw [this]
  · refine ⟨?_, hb5⟩
    have : nnT T = false := by
      unfold nnT
      rw [List.any_eq_false]
      intro t ht
      obtain ⟨i, hi, rfl⟩ := List.getElem_of_mem ht
      rw [hno i hi _ (List.getElem?_eq_getElem hi)]
      decide
    rw [this]
end Go.Proofs.YtahckikemljlnaaGreatDoor
