/- Index.Splice. -/
import Derived.Test.YtjeploipaejepaaLineIndex
import Derived.Test.YtjeploipaejepaaRowCut
set_option linter.unusedVariables false
set_option linter.unusedSimpArgs false
namespace Go.Proofs.Ytjeploipaejepaa
open Go.RowKit

theorem grown_below {w w' : World} {row : Option Nat} (h : Below w.heap.size w w') : w.grownBy w' row := ⟨h.os, h.tape, h.output, h.size, fun k hk _ => h.block k hk⟩
theorem grown_set {w w' : World} {p i : Nat} (h : w.grownBy w' (some p)) (x : Value) : w.grownBy (w'.setCell ⟨p, i, none⟩ x) (some p) :=
  ⟨h.os, h.tape, h.output, by have := h.size; simpa [World.setCell] using this, fun k hk hne => by
    rw [Below.heap_setCell w' _ x k (by intro e; subst e; exact hne rfl)]; exact h.block k hk hne⟩
theorem elemInts : Try.prog.elem 23 = 3 := by kernel_rfl
theorem iw {x : Int} (h : 0 ≤ x ∧ x < 9223372036854775808) : IntKind.i64.wrap x = x := by
  simp [IntKind.wrap, IntKind.bits, IntKind.signed]; omega

set_option maxHeartbeats 1000000 in
set_option maxRecDepth 1000000 in
theorem splice_any (base p n a d : Nat) (zs ins : List Int) (v e0 : Value) (w : World) (hI : Idx w base p n zs) (hn : n ≤ 1000000) (hz : zs.length ≤ 1000000) (hzb : ∀ z ∈ zs, 0 ≤ z ∧ z ≤ 1000000)
    (hmono : ∀ i j, i < j → j < zs.length → zs.getD i 0 < zs.getD j 0) (hb : ins.length ≤ 100000)
    (hr : Row w v ins.length (ins.map (Value.int .u8))) (hu : ∀ x ∈ ins, 0 ≤ x ∧ x < 256) (had : a + d ≤ n) :
    Calls Try.prog 23 #[.pointer (some ⟨p, 0, none⟩), .int .i64 a, .int .i64 d, v, e0] w fun e w' => e = .returned (.int .i64 0) ∧ ∃ c1 c2 : Nat,
      c1 ≤ zs.length ∧ (∀ k, k < zs.length → (zs.getD k 0 ≤ a ↔ k < c1)) ∧ c2 ≤ zs.length ∧ (∀ k, k < zs.length → (zs.getD k 0 ≤ a + d ↔ k < c2)) ∧
      Idx w' base p (n + ins.length - d) (zs.take c1 ++ brk ins a ins.length ++ (zs.drop c2).map (fun z : Int => z - d + ins.length)) ∧ Below base w w' ∧ w.grownBy w' (some p) := by
  obtain ⟨i0, hi, hz0, hz1, hz2⟩ := infoInt
  obtain ⟨hbp, z, hh, hown⟩ := hI
  obtain ⟨c0, c1, f0, f1⟩ := cells_of hh
  have hplt := idx_lt hh
  have hfar := idx_far hh hown
  have hbrk := brk_le ins a ins.length
  have hrz := Row.owned hown
  obtain ⟨oz, cz, rfl⟩ := hrz.slice
  have hcz : zs.length ≤ cz := by obtain ⟨o', c', e, h, _⟩ := hrz; simp only [Value.slice.injEq] at e; omega
  obtain ⟨ov, cv, rfl⟩ := hr.slice
  have HH := Lib.hid (And.intro hh hown)
  have HM := Lib.hid (And.intro hmono hzb)
  clear hh hown hmono hzb
  go_enter Try.func23, Try.ntmps23
  go_wp2_with fail
  go_region_held3 (fun w' => w'.cell? ⟨p, 1, none⟩ = some (.slice oz zs.length cz))
    (first | assumption | go_keep)
    (first
     | (go_at_call 42; refine (above_any zs (a : Int) _ _ (by omega) (hrz.below (by repeat (first | exact Below.refl _ _ | assumption | (refine Below.drew ?_) | (refine below_drewN ?_ _) | (refine bel_new ?_ _) | (refine bel_then ?_ (by assumption))))) HM.out.1).mono ?_; rintro e w1 ⟨k1, rfl, hk1, hk1', hb1⟩; have q0 := idx_keep (i := 0) (x := .int .i64 n) hplt hb1 (by first | assumption | exact (Below.refl _ _).drew) (by assumption); have q1 := idx_keep (i := 1) (x := .slice oz zs.length cz) hplt hb1 (by first | assumption | exact (Below.refl _ _).drew) (by assumption); have q2 : Below w.heap.size w w1 := bel_then (by first | assumption | exact (Below.refl _ _).drew) hb1; have Hk1 := Lib.hid hk1'; clear hk1')
     | (go_at_call 42; refine (above_any zs (IntKind.i64.wrap ((a : Int) + d)) _ _ (by omega) (hrz.below (by repeat (first | exact Below.refl _ _ | assumption | (refine Below.drew ?_) | (refine below_drewN ?_ _) | (refine bel_new ?_ _) | (refine bel_then ?_ (by assumption))))) HM.out.1).mono ?_; rintro e w2 ⟨k2, rfl, hk2, hk2', hb2⟩; have r0 := idx_keep (i := 0) (x := .int .i64 n) hplt hb2 (by first | assumption | exact (Below.refl _ _).drew) (by assumption); have r1 := idx_keep (i := 1) (x := .slice oz zs.length cz) hplt hb2 (by first | assumption | exact (Below.refl _ _).drew) (by assumption); have r2 : Below w.heap.size w w2 := bel_then (by first | assumption | exact (Below.refl _ _).drew) hb2; have Hk2 := Lib.hid hk2'; clear hk2'))
  have w2z := hrz.below r2
  have HC := Lib.hid (And.intro c0 (And.intro c1 (And.intro f0 f1)))
  clear hb1 q0 q1 hb2 c0 c1 f0 f1
  have hte : Try.prog.underlying 23 = some (.slice (Try.prog.elem 23)) := by rw [elemInts]; exact Try.underlying23
  have Hte := Lib.hid hte
  clear hte
  go_wp2_with (first
    | (refine wpList_cut_h _ rfl _ _ 23 rfl 3 elemInts Hte.out i0 hi hz1 _ _ _ rfl w2z (by simp) k1 rfl hk1 ?_; intro o3 c3 hr3)
    | (at_builtin; refine wpList_append_row _ rfl _ _ 23 rfl w.heap.size 3 i0 (.int .i64 0) 1 8 Try.underlying23 hi hz0 hz1 hz2 rfl (by decide) _ _ _ rfl (World.ownsRow_nil w2 _ _ _) _ _ _ rfl (hr3 _ w2z) (by simp; omega) (by rw [← List.map_take]; exact ints_one _ _) (by unfold maxLen; omega) (by omega) r2.size ?_; intro v3 w3 hown3 hg3; have hb3 : Below w.heap.size w w3 := r2.grown hg3 r2.size (by intro k h; cases h))
    | (go_at_call 43; refine (breaks_any a ins _ _ ⟨by omega, by omega⟩ hb (hr.below (by repeat (first | exact Below.refl _ _ | assumption | (refine Below.drew ?_) | (refine below_drewN ?_ _) | (refine bel_new ?_ _) | (refine bel_then ?_ (by assumption))))) hu).mono ?_; rintro e w4 ⟨u4, rfl, hown4, hb4'⟩; have hb4 : Below w.heap.size w w4 := bel_then (by assumption) hb4'; have hown34 := owns_below hown3 hb4')
    | (at_builtin; refine wpList_append_row _ rfl _ _ 23 rfl w.heap.size 3 i0 (.int .i64 0) 1 8 Try.underlying23 hi hz0 hz1 hz2 rfl (by decide) _ _ _ rfl hown34 _ _ _ rfl (Row.owned hown4) (by simp) (ints_one _ _) (by unfold maxLen; omega) (by omega) hb4.size ?_; intro v5 w5 hown5 hg5; have hb5 : Below w.heap.size w w5 := hb4.grown hg5 hb4.size (fun j hj => (hown34.lt j hj).1); have w5z := hrz.below hb5; have q5 := idx_keep (i := 1) (x := .slice oz zs.length cz) hplt hb5 (Below.refl _ _) HC.out.2.1)
    | (refine wpList_cut_l _ rfl _ _ 23 rfl 3 elemInts Hte.out i0 hi hz1 _ _ _ rfl w5z (by simp) k2 rfl hk2 ?_; intro o6 c6 hr6)
    | go_in)
  have hk6 : zs.length - k2 = (zs.drop k2).length := by simp
  obtain ⟨xs, hxs⟩ : ∃ xs, xs = zs.drop k2 := ⟨_, rfl⟩
  have hr6' : Row w (.slice o6 xs.length c6) xs.length (xs.map (Value.int .i64)) := by rw [hxs, ← hk6, List.map_drop]; exact hr6 _ hrz
  have hxb : ∀ x ∈ xs, 0 ≤ x ∧ x ≤ 1000000 := fun x hx => HM.out.2 x (List.mem_of_mem_drop (hxs ▸ hx))
  have hxl : xs.length ≤ zs.length := by rw [hxs]; simp
  have hkx : zs.length - k2 = xs.length := by rw [hxs]; exact hk6
  rw [hkx]
  obtain ⟨o7, c7, e7, hcap, hmax, hrow⟩ := hr6'
  simp only [Value.slice.injEq, true_and] at e7
  obtain ⟨rfl, rfl⟩ := e7
  have HXS := Lib.hid (And.intro hxs (And.intro hkx hk6))
  have HW := Lib.hid (And.intro hown34 hown5)
  clear hr6 hxs hk6 hkx hown34 hown4 hown3 hg3 hg5 hr3 hb3 hb4' hb4 hown5 w5z
  obtain ⟨L, hL⟩ : ∃ L, L = k1 + (brk ins a ins.length).length := ⟨_, rfl⟩
  obtain ⟨M, hM⟩ : ∃ M, M = ([] ++ List.take k1 (zs.map (Value.int .i64)) ++ (brk ins a ins.length).map (Value.int .i64)) := ⟨_, rfl⟩
  have hown7 : w5.ownsRow w.heap.size 3 1 v5 (L + 0) (M ++ (((xs.take 0).map (fun z : Int => z - d + ins.length)).map (Value.int .i64))) := by
    have := HW.out.2; rw [hL, hM]; simpa using this
  have hLl : L ≤ 2000000 := by omega
  have HL := Lib.hid (And.intro hL hM)
  clear HW hL hM
  go_loopw [13, 75] (fun u i wr => ∃ k : Nat, k ≤ xs.length ∧ i = .int .i64 k ∧ wr.ownsRow w.heap.size 3 1 u (L + k) (M ++ (((xs.take k).map (fun z : Int => z - d + ins.length)).map (Value.int .i64))) ∧ Below w.heap.size w wr)
    (fun _ i _ => xs.length - (intOf i).toNat)
  case atStart => exact ⟨0, Nat.zero_le _, rfl, hown7, hb5⟩
  case round =>
    obtain ⟨k, hk, rfl, hown, hbel⟩ := hrel
    by_cases hkk : k < xs.length
    · rcases hrow with h0 | ⟨b, off, rfl, hlt, hc⟩
      · omega
      obtain ⟨x, hx⟩ : ∃ x, x = xs.getD k 0 := ⟨_, rfl⟩
      have hxm := hxb x (by rw [hx]; exact getD_mem hkk)
      have hcx : wr.cell? ⟨b, off + k, none⟩ = some (.int .i64 x) := by rw [hbel.cell hlt, hx]; exact hc k _ (getElem?_ints hkk)
      have hs : (xs.take (k + 1)).map (fun z : Int => z - d + ins.length) = (xs.take k).map (fun z : Int => z - d + ins.length) ++ [x - d + ins.length] := by
        rw [List.take_add_one, List.map_append, hx]
        simp [List.getD, List.getElem?_eq_getElem hkk]
      have HS := Lib.hid hs
      clear hc hx hs hxb
      go_wp2_with (first
        | (at_builtin; refine wpList_append_own _ rfl _ _ 23 rfl w.heap.size 3 i0 (.int .i64 0) 1 8 Try.underlying23 hi hz0 hz1 hz2 rfl (by decide) _ _ _ rfl (hown.alloc _) ⟨wr.heap.size, 0, none⟩ 1 1 [.int .i64 (x - d + ins.length)] rfl rfl ?c1 ?c2 ?c3 ?c4 ?c5 ?_)
        | go_in)
      case c1 =>
        intro j u hj
        match j, hj with
        | 0, hj => simp at hj; subst hj; simp [Addr.add]
      case c2 => intro u hu; simp at hu; subst hu; rfl
      case c3 => unfold maxLen; omega
      case c4 => omega
      case c5 => have := hbel.size; simp; omega
      · intro v' w1 hown' hgrow _
        have hB1 : Below w.heap.size w w1 := (hbel.alloc hbel.size _).grown hgrow (by have := hbel.size; simp; omega) (fun j hj => (hown.lt j hj).1)
        clear hgrow hown hbel hcx
        go_wp2
        go_roundw
        case rel => exact ⟨k + 1, by omega, by go_num, by rw [HS.out, List.map_append, ← List.append_assoc]; simpa [Nat.add_assoc] using hown', hB1⟩
        case measure => simp [intOf]; omega
    · obtain ⟨ou, cu, rfl⟩ := owns_slice hown
      have gr : wr.heap[p]? = some (.cells #[.int .i64 n, .slice oz zs.length cz] 60 (0, 0)) := (hbel.block p hplt).trans HH.out.1
      obtain ⟨d0, d1, f0, f1⟩ := cells_of gr
      have hkl : k = xs.length := by omega
      subst hkl
      have HO := Lib.hid (And.intro hown (And.intro hbel gr))
      clear hown hbel gr hrow hown7
      go_wp2
      go_ret
      obtain ⟨hown, hbel, gr⟩ := HO.out
      obtain ⟨hxs, hkx, _⟩ := HXS.out
      have far := idx_far gr hown
      refine ⟨rfl, k1, k2, hk1, Hk1.out, hk2, ?_, ⟨hbp, .slice ou (L + xs.length) cu, ?_, ?_⟩, ((hbel.mono (by omega)).setCell hbp _).setCell hbp _, grown_set (grown_set (grown_below hbel) _) _⟩
      · have h := Hk2.out
        rwa [iw (by omega)] at h
      · have e : (n : Int) + ((ins.length : Int) - d) = ((n + ins.length - d : Nat) : Int) := by omega
        rw [set0 (set1 gr _), e]
      · have hl : (List.take k1 zs ++ brk ins a ins.length ++ (zs.drop k2).map (fun z : Int => z - d + ins.length)).length = L + xs.length := by
          rw [HL.out.1, ← hkx]; simp; omega
        have hm : (List.take k1 zs ++ brk ins a ins.length ++ (zs.drop k2).map (fun z : Int => z - d + ins.length)).map (Value.int .i64) = M ++ (((xs.take xs.length).map (fun z : Int => z - d + ins.length)).map (Value.int .i64)) := by
          rw [HL.out.2, ← hxs]; simp [List.map_take]
        rw [hl, hm]
        exact owns_blocks (owns_blocks (owns_base hown (by omega)) far (fun k hk => Below.heap_setCell wr _ _ k hk)) far (fun k hk => Below.heap_setCell _ _ _ k hk)
end Go.Proofs.Ytjeploipaejepaa
