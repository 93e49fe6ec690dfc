/- The walk of LinesBack. -/
import Derived.Test.YtjeploipaejepaaLineLaw1
import Derived.Test.YtjeploipaejepaaLineBytes
import Derived.Test.YtjeploipaejepaaIntsSame
set_option linter.unusedVariables false
set_option linter.unusedSimpArgs false
namespace Go.Proofs.Ytjeploipaejepaa
open Go.RowKit

theorem brk_len (ys : List Int) (f g : Int) (k : Nat) : (brk ys f k).length = (brk ys g k).length := by
  have := brk_shift ys f (g - f) k
  rw [show f + (g - f) = g from by omega] at this
  rw [← this]; simp
theorem count_insert (bs ins : List Int) (p : Nat) (hp : p ≤ bs.length) : (sts (bs.take p ++ ins ++ bs.drop (p + 0))).length = (sts bs).length + (brk ins p ins.length).length := by
  have la : (bs.take p).length = p := by simp; omega
  unfold sts
  have h := brk_all (bs.take p) (bs.drop p) 0
  rw [List.take_append_drop] at h
  rw [brk_all (bs.take p ++ ins), brk_all (bs.take p) ins, h]
  simp only [List.length_cons, List.length_append, Nat.add_zero]
  rw [brk_len ins (0 + ((bs.take p).length : Int)) p, brk_len (bs.drop p) (0 + (((bs.take p).length + ins.length : Nat) : Int)) (0 + ((bs.take p).length : Int))]
  omega
theorem back_bytes (bs ins : List Int) (p : Nat) (hp : p ≤ bs.length) : (bs.take p ++ ins ++ bs.drop (p + 0)).take p ++ [] ++ (bs.take p ++ ins ++ bs.drop (p + 0)).drop (p + ins.length) = bs := by
  have la : (bs.take p).length = p := by simp; omega
  have e1 : (bs.take p ++ ins ++ bs.drop (p + 0)).take p = bs.take p := by
    rw [List.append_assoc, List.take_append_of_le_length (by omega)]
    rw [List.take_of_length_le (by omega)]
  have e2 : (bs.take p ++ ins ++ bs.drop (p + 0)).drop (p + ins.length) = bs.drop p := by
    have : p + ins.length = (bs.take p ++ ins).length := by rw [List.length_append, la]
    rw [this, List.drop_left]; simp
  rw [e1, e2]; simp

set_option maxHeartbeats 2000000 in
set_option maxRecDepth 1000000 in
theorem linesBack_walk (bs : List Int) (v : Value) (ins : List Int) (u : Value) (a : Int) (w : World) (hr : Row w v bs.length (bs.map (Value.int .u8))) (hu : ∀ x ∈ bs, 0 ≤ x ∧ x < 256)
    (hr2 : Row w u ins.length (ins.map (Value.int .u8))) (hu2 : ∀ x ∈ ins, 0 ≤ x ∧ x < 256) (ha : (Lit.int .i64 a).wf = true) :
    Calls Try.prog 6 #[v, u, .int .i64 a] w fun e w' => e = .returned (.bool true) ∧ Below w.heap.size w w' := by
  have hmax := hr.le
  have hmax2 := hr2.le
  clear ha
  obtain ⟨ov, cv, rfl⟩ := hr.slice
  obtain ⟨ou, cu, rfl⟩ := hr2.slice
  by_cases hlen : 200 < bs.length ∨ 60 < ins.length
  · have hl : (200 < bs.length) ∨ (¬ 200 < bs.length ∧ 60 < ins.length) := by omega
    clear hlen
    rcases hl with hl | ⟨hl, hl2⟩
    all_goals (
      go_enter Try.func6, Try.ntmps6
      go_wp2_with (go_at_call 13; refine (told_any _).mono ?_; rintro e w1 ⟨rfl, hb1⟩)
      go_ret
      exact ⟨rfl, by repeat (first | exact Below.refl _ _ | assumption | (refine Below.drew ?_) | (refine below_drewN ?_ _) | (refine bel_new ?_ _) | (refine bel_then ?_ (by assumption)))⟩)
  have hl1 : bs.length ≤ 200 := by omega
  have hl2 : ins.length ≤ 60 := by omega
  clear hlen hmax hmax2
  obtain ⟨p, hp, ep'⟩ := u64_mod a (1 + bs.length) (by omega) (by omega)
  have ep1 : (IntKind.u64.wrap a).tmod (1 + (bs.length : Int)) = (p : Int) := by rw [← ep']; congr 1
  have ep2 : (IntKind.u64.wrap a).tmod ((bs.length : Int) + 1) = (p : Int) := by rw [← ep1, Int.add_comm]
  clear ep'
  have hpb : p ≤ bs.length := by omega
  have HC := Lib.hid (count_insert bs ins p hpb)
  have HB := Lib.hid (back_bytes bs ins p hpb)
  obtain ⟨bs1, hbs1⟩ : ∃ x, x = bs.take p ++ ins ++ bs.drop (p + 0) := ⟨_, rfl⟩
  have hbl : bs1.length ≤ 260 ∧ p + ins.length ≤ bs1.length := by rw [hbs1]; simp; omega
  rw [← hbs1] at HC HB
  have hsl := sts_le bs
  have hbk := brk_le ins p ins.length
  go_enter Try.func6, Try.ntmps6
  go_wp2_with fail
  refine (newB_any _).mono ?_
  rintro e w1 ⟨rfl, hI1, hb1⟩
  obtain ⟨B, hB⟩ : ∃ B, B = w.heap.size := ⟨_, rfl⟩
  rw [← hB] at hI1 hb1
  rw [← hB]
  have hlow : ∀ w', Below B w w' → Below w.heap.size w w' := fun w' h => hB ▸ h
  have hBs : B ≤ w.heap.size := by omega
  have HL := Lib.hid hlow
  clear hB hlow
  have hr1 := hr.below (HL.out _ hb1)
  go_wp2_with fail
  refine (feedB_any B B [] bs _ w1 hI1 (by simp) (by omega) hr1 hu).mono ?_
  rintro e w2 ⟨rfl, hI2, hb2⟩
  rw [List.nil_append] at hI2
  have hB2 : Below B w w2 := hb1.trans hb2
  clear hI1 hb1 hb2 hr1
  go_wp2_with fail
  refine (startsB_any B B bs w2 hI2 (by omega)).mono ?_
  rintro e w3 ⟨uw, rfl, hown3, hb3⟩
  have hI3 : IdxB w3 B B bs := idx_below hI2 hb3
  have hB3 : Below B w w3 := hB2.trans (hb3.mono (Nat.le_trans hBs hB2.size))
  have hBw : B < w2.heap.size := by obtain ⟨_, _, h, _⟩ := hI2; exact idx_lt h
  have hsl3 : 0 < (sts bs).length := by simp [sts]
  obtain ⟨g, cg, rfl⟩ := ownsRow_form' hown3 hsl3
  have hgne := (hown3.lt g rfl).1
  clear hI2 hB2 hb3
  have hr3 : Row w3 (.slice ou ins.length cu) ins.length (ins.map (Value.int .u8)) := hr2.below (HL.out _ hB3)
  go_wp2_with fail
  refine (spliceB_any B B p 0 bs ins _ _ w3 hI3 (by omega) (by omega) hr3 hu2 (by omega)).mono ?_
  rintro e w4 ⟨rfl, hI4, hb4, hg4⟩
  rw [← hbs1] at hI4
  have hown4 := hown3.kept hg4 (.inr (by simp only [Value.ownBlock, ne_eq, Option.some.injEq]; omega))
  have hB4 : Below B w w4 := hB3.trans hb4
  have hr4 : Row w4 (.slice ou ins.length cu) ins.length (ins.map (Value.int .u8)) := hr2.below (HL.out _ hB4)
  clear hI3 hown3 hb4 hg4 hB3 hr3 hr2 hr hu
  go_wp2_with fail
  obtain ⟨_, _, e4, _, _, hrow⟩ := hr4
  simp only [Value.slice.injEq, true_and] at e4
  obtain ⟨rfl, rfl⟩ := e4
  have HI := Lib.hid (And.intro hI4 (And.intro hown4 hB4))
  have HU := Lib.hid hu2
  clear hI4 hown4 hB4 hu2
  go_loopw [11, 12] (fun n i wr => ∃ k : Nat, n = .int .i64 ((brk ins p k).length : Nat) ∧ i = .int .i64 k ∧ k ≤ ins.length ∧ wr = w4) (fun _ i _ => ins.length - (intOf i).toNat)
  case atStart => exact ⟨0, rfl, rfl, Nat.zero_le _, rfl⟩
  case round =>
    obtain ⟨k, rfl, rfl, hk, rfl⟩ := hrel
    have hkb := brk_le ins p k
    by_cases hkl : k < ins.length
    · rcases hrow with ⟨h0, _⟩ | ⟨b, off, rfl, hlt, hcell⟩
      · omega
      obtain ⟨z, hz⟩ : ∃ z, z = ins.getD k 0 := ⟨_, rfl⟩
      have hcz : wr.cell? ⟨b, off + k, none⟩ = some (.int .u8 z) := by rw [hz]; exact hcell k _ (getElem?_ints (by omega))
      by_cases h10 : z = 10
      · have hz10 : (z == 10) = true := by simp [h10]
        have hs : (brk ins p (k + 1)).length = (brk ins p k).length + 1 := by simp only [brk]; rw [if_pos (by rw [← hz]; exact h10)]; simp
        have HS := Lib.hid hs
        clear hcell hz h10 hs
        go_wp2
        go_roundw
        case rel => exact ⟨k + 1, by rw [HS.out]; go_num, by go_num, by omega, trivial⟩
        case measure => simp [intOf]; omega
      · have hz10 : (z == 10) = false := by simp [h10]
        have hs : (brk ins p (k + 1)).length = (brk ins p k).length := by simp only [brk]; rw [if_neg (by rw [← hz]; exact h10)]
        have HS := Lib.hid hs
        clear hcell hz h10 hs
        go_wp2
        go_roundw
        case rel => exact ⟨k + 1, by rw [HS.out], by go_num, by omega, trivial⟩
        case measure => simp [intOf]; omega
    · have hkt2 : k = ins.length := by omega
      subst hkt2
      clear hrow hkb
      obtain ⟨hI4, hown4, hB4⟩ := HI.out
      have hslow : B ≤ wr.heap.size := Nat.le_trans hBs hB4.size
      go_wp2_with fail
      refine (startsB_any B B bs1 wr hI4 (by omega)).mono ?_
      rintro e w5 ⟨u5, rfl, hown5, hb5⟩
      rw [HC.out] at hown5
      obtain ⟨o5, c5, rfl⟩ := owns_slice hown5
      have hI5 := idx_below hI4 hb5
      have hown5' := owns_below hown4 hb5
      have hB5 : Below B w w5 := hB4.trans (hb5.mono hslow)
      have h5 := hb5.size
      clear hown5 hI4 hown4 hB4 hb5 HI
      go_wp2_with fail
      refine (spliceB_any B B p ins.length bs1 [] _ _ w5 hI5 (by omega) (by simp) (Row.nil w5) (by simp) (by omega)).mono ?_
      rintro e w6 ⟨rfl, hI6, hb6, hg6⟩
      rw [HB.out] at hI6
      have hown6 := hown5'.kept hg6 (.inr (by simp only [Value.ownBlock, ne_eq, Option.some.injEq]; omega))
      have hB6 : Below B w w6 := hB5.trans hb6
      have h6 := hb6.size
      clear hI5 hown5' hb6 hg6 hB5
      go_wp2_with fail
      refine (told_any _).mono ?_
      rintro e w7 ⟨rfl, hb7⟩
      have hI7 : IdxB w7 B B bs := idx_below hI6 hb7
      have hown7 := owns_below hown6 hb7
      have hB7 : Below B w w7 := hB6.trans (hb7.mono (by omega))
      have h7 := hb7.size
      clear hI6 hown6 hb7 hB6
      go_wp2_with fail
      refine (startsB_any B B bs w7 hI7 (by omega)).mono ?_
      rintro e w8 ⟨u8, rfl, hown8, hb8⟩
      have hown8' := owns_below hown7 hb8
      have hB8 : Below B w w8 := hB7.trans (hb8.mono (by omega))
      have h8 := hb8.size
      clear hI7 hown7 hb8 hB7
      go_wp2_with fail
      refine (numbers_same (sts bs) _ _ w8 (Row.owned hown8) (Row.owned hown8') (by omega)).mono ?_
      rintro e w9 ⟨rfl, hb9⟩
      have hB9 : Below B w w9 := hB8.trans (hb9.mono (by omega))
      clear hown8 hown8' hb9 hB8
      go_wp2
      go_ret
      exact ⟨rfl, HL.out _ hB9⟩
end Go.Proofs.Ytjeploipaejepaa
