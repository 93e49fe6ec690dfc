/- Where a line begins and ends: the reference's Ends. -/
import Derived.Test.YtjeploipaejepaaLineEnds3
set_option linter.unusedVariables false
set_option linter.unusedSimpArgs false
namespace Go.Proofs.Ytjeploipaejepaa
open Go.RowKit

set_option maxHeartbeats 1000000 in
set_option maxRecDepth 1000000 in
theorem refEnds_any (s : ByteArray) (line : Int) (w : World) (hn : s.size ≤ 100000) (hl : -9223372036854775808 ≤ line ∧ line ≤ 9223372036854775807) :
    Calls Try.prog 15 #[.string s, .int .i64 line] w fun e w' => ∃ x y : Int, e = .returned (.tuple #[.int .i64 x, .int .i64 y]) ∧ EndsOf (sb s) line x y ∧ Below w.heap.size w w' := by
  have hst := refStarts_any s w hn
  have hget := sb_get s
  have hlen := sb_len s
  have hsl := sts_le (sb s)
  obtain ⟨bs, hbs⟩ : ∃ bs, bs = sb s := ⟨_, rfl⟩
  rw [← hbs] at hget hlen hst hsl
  rw [← hbs]
  have HG := Lib.hid hget
  have HB := Lib.hid hbs
  clear hget hbs
  go_enter Try.func15, Try.ntmps15
  go_wp2_with fail
  refine hst.mono ?_
  rintro e w1 ⟨u, rfl, hown, hb1⟩
  obtain ⟨o, cap, rfl, hcap, hmax, hrow⟩ := Row.owned hown
  clear hown hst
  have Hr := Lib.hid hrow
  clear hrow
  by_cases hneg : line < 0
  · go_wp2
    go_ret2
    exact ⟨-1, -1, rfl, .inl ⟨.inl hneg, rfl, rfl⟩, by repeat (first | exact Below.refl _ _ | assumption | (refine Below.drew ?_) | (refine below_drewN ?_ _) | (refine bel_new ?_ _) | (refine bel_then ?_ (by assumption)))⟩
  by_cases hbig : ((sts bs).length : Int) ≤ line
  · go_wp2
    go_ret2
    exact ⟨-1, -1, rfl, .inl ⟨.inr hbig, rfl, rfl⟩, by repeat (first | exact Below.refl _ _ | assumption | (refine Below.drew ?_) | (refine below_drewN ?_ _) | (refine bel_new ?_ _) | (refine bel_then ?_ (by assumption)))⟩
  obtain ⟨i, rfl⟩ : ∃ i : Nat, line = (i : Int) := ⟨line.toNat, by omega⟩
  have hil : i < (sts bs).length := by omega
  clear hneg hbig
  obtain ⟨b, off, rfl, hbl, hc⟩ : ∃ b off, o = some ⟨b, off, none⟩ ∧ b < w1.heap.size ∧ ∀ j u, ((sts bs).map (Value.int .i64))[j]? = some u → w1.cell? ⟨b, off + j, none⟩ = some u := by
    rcases Hr.out with ⟨h, _⟩ | h
    · omega
    · exact h
  have Hc := Lib.hid hc
  clear hc
  obtain ⟨d, hd, hdn⟩ := sts_pos bs i hil
  have hcd : w1.cell? ⟨b, off + i, none⟩ = some (.int .i64 d) := by rw [← hd]; exact Hc.out i _ (getElem?_ints hil)
  have Hd := Lib.hid hd
  clear hd
  by_cases h1 : i + 1 < (sts bs).length
  · obtain ⟨t, ht, htn⟩ := sts_pos bs (i + 1) h1
    have hct : w1.cell? ⟨b, off + (i + 1), none⟩ = some (.int .i64 t) := by rw [← ht]; exact Hc.out (i + 1) _ (getElem?_ints h1)
    have hlt : d < t := by have := sts_mono bs i (i + 1) (by omega) h1; rw [Hd.out, ht] at this; omega
    have Ht := Lib.hid ht
    clear ht
    obtain ⟨c, rfl⟩ : ∃ c, t = d + c + 1 := ⟨t - d - 1, by omega⟩
    cases c with
    | zero =>
      go_wp2
      go_ret2
      exact ⟨d, _, rfl, .inr ⟨i, d, rfl, hil, Hd.out, rfl, .inr ⟨0, h1, Ht.out, .inr ⟨by omega, by omega⟩⟩⟩, by repeat (first | exact Below.refl _ _ | assumption | (refine Below.drew ?_) | (refine below_drewN ?_ _) | (refine bel_new ?_ _) | (refine bel_then ?_ (by assumption)))⟩
    | succ c =>
      have hdc : d + c < s.size := by omega
      go_wp2
      · have h13 : bs.getD (d + c) 0 = 13 := by
          have h : (((s[d + c]'hdc).toNat : Int) == 13) = true := by assumption
          rw [HG.out _ hdc]; simpa using h
        go_ret2
        exact ⟨d, _, rfl, .inr ⟨i, d, rfl, hil, Hd.out, rfl, .inr ⟨c + 1, h1, Ht.out, .inl ⟨by omega, by rw [show d + (c + 1) - 1 = d + c from by omega]; exact h13, by omega⟩⟩⟩, by repeat (first | exact Below.refl _ _ | assumption | (refine Below.drew ?_) | (refine below_drewN ?_ _) | (refine bel_new ?_ _) | (refine bel_then ?_ (by assumption)))⟩
      · have h13 : ¬ bs.getD (d + c) 0 = 13 := by
          have h : (((s[d + c]'hdc).toNat : Int) == 13) = false := by assumption
          rw [HG.out _ hdc]; simpa using h
        go_ret2
        exact ⟨d, _, rfl, .inr ⟨i, d, rfl, hil, Hd.out, rfl, .inr ⟨c + 1, h1, Ht.out, .inr ⟨by rw [show d + (c + 1) - 1 = d + c from by omega]; exact fun h => h13 h.2, by omega⟩⟩⟩, by repeat (first | exact Below.refl _ _ | assumption | (refine Below.drew ?_) | (refine below_drewN ?_ _) | (refine bel_new ?_ _) | (refine bel_then ?_ (by assumption)))⟩
  · go_wp2
    go_ret2
    exact ⟨d, _, rfl, .inr ⟨i, d, rfl, hil, Hd.out, rfl, .inl ⟨by omega, by omega⟩⟩, by repeat (first | exact Below.refl _ _ | assumption | (refine Below.drew ?_) | (refine below_drewN ?_ _) | (refine bel_new ?_ _) | (refine bel_then ?_ (by assumption)))⟩
end Go.Proofs.Ytjeploipaejepaa
