/- Where lines begin: the program's and the reference's Starts. -/
import Derived.Test.YtjeploipaejepaaLineWalks
set_option linter.unusedVariables false
set_option linter.unusedSimpArgs false
namespace Go.Proofs.Ytjeploipaejepaa
open Go.RowKit

/-- where the lines of some bytes begin -/
def sts (bs : List Int) : List Int := 0 :: brk bs 0 bs.length
theorem sts_le (bs : List Int) : (sts bs).length ≤ bs.length + 1 := by
  have := brk_le bs 0 bs.length
  simp [sts]; omega

set_option maxHeartbeats 1000000 in
set_option maxRecDepth 1000000 in
theorem starts_any (bs : List Int) (v : Value) (w : World) (hn : bs.length ≤ 100000) (hr : Row w v bs.length (bs.map (Value.int .u8))) (hu : ∀ x ∈ bs, 0 ≤ x ∧ x < 256) :
    Calls Try.prog 19 #[v] w fun e w' =>
      ∃ u, e = .returned u ∧ w'.ownsRow w.heap.size 3 1 u (sts bs).length ((sts bs).map (Value.int .i64)) ∧ Below w.heap.size w w' := by
  obtain ⟨i0, hi, hz0, hz1, hz2⟩ := infoInt
  have hle := brk_le bs 0 bs.length
  go_enter Try.func19, Try.ntmps19
  have hown0 := World.ownsRow_lit (e := 3) (base := w.heap.size) (size := 1) w #[.int .i64 0] 1 (Nat.le_refl _) (by decide) rfl
  go_wp2_with (first
    | (go_at_call 43; refine (breaks_any 0 bs v _ ⟨by omega, by omega⟩ hn (hr.below (by repeat (first | exact Below.refl _ _ | assumption | (refine Below.drew ?_) | (refine below_drewN ?_ _) | (refine bel_new ?_ _) | (refine bel_then ?_ (by assumption))))) hu).mono ?_; rintro e w1 ⟨u, rfl, hown, hb1⟩)
    | (at_builtin; refine wpList_append_row _ rfl _ _ 23 rfl w.heap.size 3 i0 (.int .i64 0) 1 8 Try.underlying23 hi hz0 hz1 hz2 rfl (by decide) _ _ _ rfl (owns_below hown0 hb1) _ _ _ rfl (Row.owned hown) (by simp) (ints_one _ _) (by unfold maxLen; omega) (by omega) (by have := hb1.size; simp at this; omega) ?_; intro v' w2 hown2 hg2)
    | go_in)
  go_ret
  refine ⟨_, rfl, ?_, ?_⟩
  · simpa [sts, Nat.add_comm] using hown2
  · exact bel_grown (by repeat (first | exact Below.refl _ _ | assumption | (refine Below.drew ?_) | (refine below_drewN ?_ _) | (refine bel_new ?_ _) | (refine bel_then ?_ (by assumption)))) hg2 (fun j hj => ((owns_below hown0 hb1).lt j hj).1)

set_option maxHeartbeats 1000000 in
set_option maxRecDepth 1000000 in
theorem refStarts_any (s : ByteArray) (w : World) (hn : s.size ≤ 100000) :
    Calls Try.prog 20 #[.string s] w fun e w' =>
      ∃ u, e = .returned u ∧ w'.ownsRow w.heap.size 3 1 u (sts (sb s)).length ((sts (sb s)).map (Value.int .i64)) ∧ Below w.heap.size w w' := by
  obtain ⟨i0, hi, hz0, hz1, hz2⟩ := infoInt
  go_enter Try.func20, Try.ntmps20
  have hget := sb_get s
  have hlen := sb_len s
  obtain ⟨bs, hbs⟩ : ∃ bs, bs = sb s := ⟨_, rfl⟩
  have hown0 := World.ownsRow_lit (e := 3) (base := w.heap.size) (size := 1) w #[.int .i64 0] 1 (Nat.le_refl _) (by decide) rfl
  rw [← hbs]
  rw [← hbs] at hget hlen
  have HG := Lib.hid hget
  clear hget
  have HB := Lib.hid hbs
  clear hbs
  go_wp2
  go_loopw [3, 4] (fun u i wr => ∃ k : Nat, k ≤ s.size ∧ i = .int .i64 k ∧ wr.ownsRow w.heap.size 3 1 u (1 + (brk bs 0 k).length) ((0 :: brk bs 0 k).map (Value.int .i64)) ∧ Below w.heap.size w wr)
    (fun _ i _ => s.size - (intOf i).toNat)
  case atStart => exact ⟨0, Nat.zero_le _, rfl, hown0, by repeat (first | exact Below.refl _ _ | assumption | (refine Below.drew ?_) | (refine below_drewN ?_ _) | (refine bel_new ?_ _) | (refine bel_then ?_ (by assumption)))⟩
  case round =>
    obtain ⟨k, hk, rfl, hown, hbel⟩ := hrel
    have hle := brk_le bs 0 k
    go_wp2_with (first
        | (at_builtin; refine wpList_append_own _ rfl _ _ 23 rfl w.heap.size 3 i0 (.int .i64 0) 1 8 Try.underlying23 hi hz0 hz1 hz2 rfl (by decide) _ _ _ rfl (hown.alloc _) ⟨wr.heap.size, 0, none⟩ 1 1 [.int .i64 (k + 1)] rfl rfl ?c1 ?c2 ?c3 ?c4 ?c5 ?_)
        | go_in)
    case c1 =>
      intro j u hj
      match j, hj with
      | 0, hj => simp at hj; subst hj; simp [Addr.add]
    case c2 => intro u hu; simp at hu; subst hu; rfl
    case c3 => unfold maxLen; omega
    case c4 => omega
    case c5 => have := hbel.size; simp; omega
    · intro v' w1 hown' hgrow _
      have hk2 : k < s.size := by assumption
      have h10 : bs.getD k 0 = 10 := by
        have h : (((s[k]'hk2).toNat : Int) == 10) = true := by assumption
        rw [HG.out k hk2]; simpa using h
      have hs : brk bs 0 (k + 1) = brk bs 0 k ++ [(k : Int) + 1] := by simp only [brk]; rw [if_pos h10]; simp
      have hB1 : Below w.heap.size w w1 := bel_grown (by repeat (first | exact Below.refl _ _ | assumption | (refine Below.drew ?_) | (refine below_drewN ?_ _) | (refine bel_new ?_ _) | (refine bel_then ?_ (by assumption)))) hgrow (fun j hj => (hown.lt j hj).1)
      clear hgrow hown hbel h10
      go_wp2
      go_roundw
      case rel => exact ⟨k + 1, by omega, by go_num, by rw [hs]; simpa [Nat.add_assoc] using hown', hB1⟩
      case measure => simp [intOf]; omega
    · have hk2 : k < s.size := by assumption
      have h10 : ¬ bs.getD k 0 = 10 := by
        have h : (((s[k]'hk2).toNat : Int) == 10) = false := by assumption
        rw [HG.out k hk2]; simpa using h
      have hs : brk bs 0 (k + 1) = brk bs 0 k := by simp only [brk]; rw [if_neg h10]
      clear h10
      go_roundw
      case rel => exact ⟨k + 1, by omega, by go_num, by rw [hs]; exact hown, hbel⟩
      case measure => simp [intOf]; omega
    · have hkl : k = s.size := by have : ¬ k < s.size := by assumption
                                  omega
      go_ret
      refine ⟨_, rfl, ?_, hbel⟩
      have e : sts bs = 0 :: brk bs 0 k := by unfold sts; rw [hlen, hkl]
      rw [e]
      simpa [Nat.add_comm] using hown
end Go.Proofs.Ytjeploipaejepaa
