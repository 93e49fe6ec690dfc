/- print.joined: the parts' texts one behind the other. -/
import Derived.Test.YtbanmggkfpnalaaGreatDoorLetter
import Derived.Test.YtbanmggkfpnalaaGreatDoorGNames
import Derived.Lib.SmallJoins
set_option linter.unusedVariables false
set_option linter.unusedSimpArgs false
namespace Go.Proofs.YtbanmggkfpnalaaGreatDoor
open Go.RowKit Ru

/-- texts, one behind the other -/
def catB (l : List ByteArray) : ByteArray := ⟨((l.map (·.data.toList)).flatten).toArray⟩
theorem catB_nil : catB [] = ⟨#[]⟩ := rfl
theorem catB_size (l : List ByteArray) : (catB l).size = (l.map ByteArray.size).sum := by
  show ((l.map (·.data.toList)).flatten).toArray.size = _
  rw [List.size_toArray]
  induction l with
  | nil => rfl
  | cons a l ih => simp [ih]
theorem join_none (l : List (List UInt8)) : Lib.join l [] = l.flatten := by
  induction l with
  | nil => rfl
  | cons a l ih =>
    cases l with
    | nil => simp [Lib.join]
    | cons b l => simp [Lib.join] at ih ⊢; rw [ih]
theorem strJoin_any (v : Value) (l : List ByteArray) (w : World) (hr : Row w v l.length (strs l)) (hn : l.length ≤ 1000000) (hl : (catB l).size ≤ 140737488355328) :
    Calls Tryz.prog 55 #[v, .string ⟨#[]⟩] w fun e w' => e = .returned (.string (catB l)) ∧ Below w.heap.size w w' := by
  obtain ⟨o, c, rfl, hc, hm, hrr⟩ := hr
  rcases hrr with ⟨h0, -⟩ | ⟨b, off, rfl, hlt, hcell⟩
  · have hl0 : l = [] := List.eq_nil_of_length_eq_zero h0
    subst hl0
    refine (Tryz.strings_Join_none o c ⟨#[]⟩ w).mono ?_
    rintro e w' ⟨rfl, rfl⟩
    exact ⟨rfl, Below.refl _ _⟩
  · have hj : Lib.join (l.map (·.data.toList)) (⟨#[]⟩ : ByteArray).data.toList = (l.map (·.data.toList)).flatten := join_none _
    have hsz : (Lib.join (l.map (·.data.toList)) (⟨#[]⟩ : ByteArray).data.toList).length ≤ 140737488355328 := by
      rw [hj]
      have : (catB l).size = ((l.map (·.data.toList)).flatten).length := by show ((l.map (·.data.toList)).flatten).toArray.size = _; rw [List.size_toArray]
      omega
    refine (Tryz.strings_Join b off c l ⟨#[]⟩ w (fun j x hx => hcell j _ (strs_get hx)) hlt (by omega) hc hsz).mono ?_
    rintro e w' ⟨rfl, hb⟩
    refine ⟨?_, hb⟩
    unfold catB
    rw [hj]
theorem get_lt {w : World} {p : Nat} {o : Obj} (h : w.heap[p]? = some o) : p < w.heap.size := (Array.getElem?_eq_some_iff.1 h).1
theorem joined_any (w : World) : Calls Tryz.prog 23 #[.string ⟨#[]⟩, .func (Fn.func 24) #[] #[]] w fun e w' =>
    e = .returned (.func (Fn.func 54) #[] #[.pointer (some ⟨w.heap.size + 1, 0, none⟩), .pointer (some ⟨w.heap.size, 0, none⟩)]) ∧
      w' = (w.alloc (.cells #[.string ⟨#[]⟩] 9)).alloc (.cells #[.func (Fn.func 24) #[] #[]] 59) := by
  go_enter Tryz.func23, Tryz.ntmps23
  go_wp2
  go_ret
  exact ⟨rfl, rfl⟩
set_option maxHeartbeats 4000000 in
set_option maxRecDepth 100000 in
theorem joinedR_any (q : Nat) (xs : List (Int × Int)) (T : Int × Int → ByteArray) (v : Value) (w : World) (hr : Row w v xs.length (flatK .i32 xs)) (hn : xs.length ≤ 100000)
    (hq0 : w.heap[q]? = some (.cells #[.string ⟨#[]⟩] 9 (0, 0))) (hq1 : w.heap[q + 1]? = some (.cells #[.func (Fn.func 24) #[] #[]] 59 (0, 0)))
    (hF : ∀ x ∈ xs, ∀ w', Below w.heap.size w w' → Calls Tryz.prog 24 #[.agg #[.int .i32 x.1, .int .i32 x.2]] w' fun e w'' => e = .returned (.string (T x)) ∧ Below w'.heap.size w' w'')
    (hl : (catB (xs.map T)).size ≤ 140737488355328) :
    Calls Tryz.prog 54 #[v, .pointer (some ⟨q + 1, 0, none⟩), .pointer (some ⟨q, 0, none⟩)] w fun e w' => e = .returned (.string (catB (xs.map T))) ∧ Below w.heap.size w w' := by
  obtain ⟨i0, hi, hz0, hz1, hz2⟩ := infoStr1
  have hr0 := hr
  obtain ⟨o, c, rfl, hc, hm, hrr⟩ := hr
  have HR := Lib.hid hr0
  have HF := Lib.hid hF
  have HL := Lib.hid hl
  have HQ := Lib.hid (And.intro hq0 hq1)
  clear hr0 hrr hF hl hq0 hq1
  obtain ⟨n, hnn⟩ : ∃ n, n = xs.length := ⟨_, rfl⟩
  rw [← hnn] at HR hn hc ⊢
  have HNN := Lib.hid hnn
  clear hnn
  go_enter Tryz.func54, Tryz.ntmps54
  go_wp2_with fail
  go_loopw [5, 10] (fun x i wr => ∃ k : Nat, k ≤ n ∧ i = .int .i64 k ∧ wr.ownsRow w.heap.size 9 1 x k (strs ((xs.take k).map T)) ∧ Below w.heap.size w wr) (fun _ i _ => n - (intOf i).toNat)
  case atStart => exact ⟨0, Nat.zero_le _, rfl, World.ownsRow_nil _ _ _ _, Below.refl _ _⟩
  case round =>
    obtain ⟨k, hk, rfl, hown, hbel⟩ := hrel
    have hbs := hbel.size
    obtain ⟨g0, y0⟩ := cell1_of ((hbel.block _ (get_lt HQ.out.1)).trans HQ.out.1)
    obtain ⟨g1, y1⟩ := cell1_of ((hbel.block _ (get_lt HQ.out.2)).trans HQ.out.2)
    have hlt1 := get_lt HQ.out.2
    have hlt2 : q + 1 < wr.heap.size := by omega
    have hne2 : ¬ q + 1 = wr.heap.size := by omega
    have hlt3 : q < wr.heap.size := by omega
    have hne3 : ¬ q = wr.heap.size := by omega
    by_cases hkl : k < n
    · have hd : decide ((k : Int) < (n : Int)) = true := by simp; omega
      have hk1 : (0 : Int) ≤ (k : Int) := by omega
      have hk2 : (k : Int) < (n : Int) := by omega
      rcases hrr : HR.out with ⟨o', c', e', h1, h2, ⟨h0, _⟩ | ⟨b, off, e'', hlt, hcell⟩⟩
      · omega
      cases e'
      cases e''
      have hkx : k < xs.length := by rw [← HNN.out]; exact hkl
      obtain ⟨x, hx⟩ : ∃ x, xs[k]? = some x := ⟨_, List.getElem?_eq_getElem hkx⟩
      have hxd : xs.getD k (0, 0) = x := by simp [List.getD, hx]
      obtain ⟨p0, p1⟩ := flatK_at .i32 xs k hkx
      rw [hxd] at p0 p1
      have z0 := hcell _ _ p0
      have z1 := hcell _ _ p1
      rw [← hbel.cell hlt] at z0 z1
      rw [← Nat.add_assoc] at z1
      have hlt' : b < wr.heap.size := by omega
      have HOWN := Lib.hid hown
      have HB := Lib.hid hbel
      have HC := Lib.hid (fun w' hb => HF.out x (List.mem_of_getElem? hx) w' hb)
      clear hown hbel hcell hrr
      go_wp2_with fail
      refine (HC.out _ (HB.out.alloc hbs _)).mono ?_
      rintro e w2 ⟨rfl, hb2⟩
      have HB2 := Lib.hid hb2
      clear hb2 g0 y0 g1 y1
      go_wp2_with (first
        | (at_builtin; refine wpList_append_own _ rfl _ _ 44 rfl w.heap.size 9 i0 (.string ⟨#[]⟩) 1 16 Tryz.underlying44 hi hz0 hz1 hz2 rfl (by decide) _ k (strs ((xs.take k).map T)) rfl ?c0 ⟨w2.heap.size, 0, none⟩ 1 1 [.string (T x)] rfl rfl ?c1 ?c2 ?c3 ?c4 ?c5 ?_)
        | go_in)
      case c0 => exact (owns_below (owns_below HOWN.out ((Below.refl _ _).alloc (Nat.le_refl _) _)) HB2.out).alloc _
      case c1 =>
        intro j u hj
        match j, hj with
        | 0, hj => simp at hj; subst hj; exact Joins.cell_alloc_mark_at _ #[.string (T x)] 9 (0, 0) _ 0 (by simp)
      case c2 => intro u hu; simp at hu; subst hu; rfl
      case c3 => unfold maxLen; omega
      case c4 => omega
      case c5 => have hz2 := HB2.out.size; simp at hz2; simp; omega
      intro v' w4 hown' hgrow _
      have hB1 : Below w.heap.size w w4 := by
        have hz2 := HB2.out.size
        simp at hz2
        refine ((bel_then (HB.out.alloc hbs _) HB2.out).alloc (by omega) _).grown hgrow (by simp; omega) (fun j hj => ?_)
        exact (HOWN.out.lt j hj).1
      have htk : (xs.take (k + 1)).map T = (xs.take k).map T ++ [T x] := by rw [List.take_add_one, hx]; simp
      have hown2 : w4.ownsRow w.heap.size 9 1 v' (k + 1) (strs ((xs.take (k + 1)).map T)) := by
        rw [htk]; simpa [strs] using hown'
      have HO := Lib.hid hown2
      have HB4 := Lib.hid hB1
      clear hown' hgrow hown2 hB1 htk z0 z1 p0 p1 hx hxd HB HB2 HOWN HC hne2 hne3 hlt1 hlt2 hlt3 hlt' hlt hkx
      go_wp2_with fail
      go_roundw
      case rel => exact ⟨k + 1, by omega, by go_num, HO.out, HB4.out⟩
      case measure => simp [intOf]; omega
    · have hkn : k = n := by omega
      subst hkn
      have hd : decide ((k : Int) < (k : Int)) = false := by simp
      have htk : xs.take k = xs := List.take_of_length_le (by rw [← HNN.out]; exact Nat.le_refl _)
      rw [htk] at hown
      have hrow : Row wr u5 (xs.map T).length (strs (xs.map T)) := by
        have := Row.owned hown
        rw [List.length_map, ← HNN.out]; exact this
      have hjn := strJoin_any _ _ _ hrow (by rw [List.length_map, ← HNN.out]; omega) HL.out
      have HJ := Lib.hid hjn
      have HB := Lib.hid hbel
      clear hown hrow hjn hbel htk
      go_wp2_with fail
      refine HJ.out.mono ?_
      rintro e w2 ⟨rfl, hb2⟩
      have HB2 := Lib.hid (bel_then HB.out hb2)
      clear hb2
      go_wp2_with fail
      go_ret
      exact ⟨rfl, HB2.out⟩
end Go.Proofs.YtbanmggkfpnalaaGreatDoor
