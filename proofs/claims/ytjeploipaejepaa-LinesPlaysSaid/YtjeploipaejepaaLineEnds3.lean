/- Where a line begins and ends: the program's Ends. -/
import Derived.Test.YtjeploipaejepaaLineEnds2
set_option linter.unusedVariables false
set_option linter.unusedSimpArgs false
namespace Go.Proofs.Ytjeploipaejepaa
open Go.RowKit

/-- where line 'line' of some bytes begins and ends -/
def EndsOf (bs : List Int) (line x y : Int) : Prop :=
  ((line < 0 ∨ (sts bs).length ≤ line) ∧ x = -1 ∧ y = -1) ∨
  ∃ i d : Nat, line = (i : Int) ∧ i < (sts bs).length ∧ (sts bs).getD i 0 = (d : Int) ∧ x = (d : Int) ∧
    ((i + 1 = (sts bs).length ∧ y = bs.length) ∨
     ∃ c : Nat, i + 1 < (sts bs).length ∧ (sts bs).getD (i + 1) 0 = ((d + c + 1 : Nat) : Int) ∧ ((0 < c ∧ bs.getD (d + c - 1) 0 = 13 ∧ y = ((d + c - 1 : Nat) : Int)) ∨ (¬ (0 < c ∧ bs.getD (d + c - 1) 0 = 13) ∧ y = ((d + c : Nat) : Int))))
theorem EndsOf.uniq {bs : List Int} {line x y x' y' : Int} (h : EndsOf bs line x y) (k : EndsOf bs line x' y') : x = x' ∧ y = y' := by
  rcases h with ⟨h1, h2, h3⟩ | ⟨i, d, h1, h2, h3, h4, h5⟩ <;> rcases k with ⟨k1, k2, k3⟩ | ⟨i', d', k1, k2, k3, k4, k5⟩
  · exact ⟨by omega, by omega⟩
  · exfalso; clear k5; omega
  · exfalso; clear h5; omega
  · have : i = i' := by omega
    subst this
    have : d = d' := by omega
    subst this
    refine ⟨by omega, ?_⟩
    rcases h5 with ⟨a1, a2⟩ | ⟨c, a1, a2, a3⟩ <;> rcases k5 with ⟨b1, b2⟩ | ⟨c', b1, b2, b3⟩
    · omega
    · omega
    · omega
    · have : c = c' := by omega
      subst this
      rcases a3 with ⟨a4, a5, a6⟩ | ⟨a4, a5⟩ <;> rcases b3 with ⟨b4, b5, b6⟩ | ⟨b4, b5'⟩
      · omega
      · exact absurd ⟨a4, a5⟩ b4
      · exact absurd ⟨b4, b5⟩ a4
      · omega

set_option maxHeartbeats 1000000 in
set_option maxRecDepth 1000000 in
theorem ends_any (bs : List Int) (line : Int) (v : Value) (w : World) (hn : bs.length ≤ 100000) (hr : Row w v bs.length (bs.map (Value.int .u8))) (hu : ∀ x ∈ bs, 0 ≤ x ∧ x < 256)
    (hl : -9223372036854775808 ≤ line ∧ line ≤ 9223372036854775807) :
    Calls Try.prog 14 #[v, .int .i64 line] w fun e w' => ∃ x y : Int, e = .returned (.tuple #[.int .i64 x, .int .i64 y]) ∧ EndsOf bs line x y ∧ Below w.heap.size w w' := by
  have hr0 := hr
  have hbeg := begin_any bs line v w hn hr hu hl
  obtain ⟨o, cap, rfl, hcap, hmax, hrow⟩ := hr
  have Hr := Lib.hid hrow
  clear hrow
  go_enter Try.func14, Try.ntmps14
  go_wp2_with fail
  refine hbeg.mono ?_
  rintro e w1 ⟨⟨h0, i, d, hi, hil, hd, hdn, rfl⟩ | ⟨hno, d, rfl⟩, rfl⟩
  · have Hd := Lib.hid hd
    have Hd2 := Lib.hid hdn
    clear hd hbeg
    have hrr := row_rest hr0 hdn
    have hud : ∀ x ∈ bs.drop d, 0 ≤ x ∧ x < 256 := fun x hx => hu x (List.mem_of_mem_drop hx)
    by_cases hcd : cap = d
    · have hr1 := hrr.1 hcd
      have hde : bs.length - cap = 0 := by omega
      rw [← hcd, hde] at hr1
      have hlast := sts_last bs i d hil Hd.out (by intro k hk hk2; omega)
      have HC := Lib.hid hcd
      have hb1 : bs.length = d := by omega
      go_wp2_with fail
      refine (indexByte_any (bs.drop d) _ _ (by rw [HC.out] at hr1; exact hr1) hud).mono ?_
      rintro e w1 ⟨r, rfl, h1, rfl⟩
      have h2 := next10_drop Hd2.out h1
      clear h1
      obtain rfl : r = -1 := by
        rcases h2 with ⟨h2, _⟩ | ⟨c, _, h2, _⟩
        · exact h2
        · omega
      clear h2
      go_wp2
      go_ret2
      exact ⟨d, d, rfl, .inr ⟨i, d, by first | rfl | assumption, hil, Hd.out, rfl, .inl ⟨hlast, by omega⟩⟩, by repeat (first | exact Below.refl _ _ | assumption | (refine Below.drew ?_) | (refine below_drewN ?_ _) | (refine bel_new ?_ _) | (refine bel_then ?_ (by assumption)))⟩
    · have hr1 := hrr.2 hcd
      clear hrr
      go_wp2_with fail
      refine (indexByte_any (bs.drop d) _ _ hr1 hud).mono ?_
      rintro e w1 ⟨r, rfl, h1, rfl⟩
      have H1 := Lib.hid (next10_drop Hd2.out h1)
      clear h1
      rcases H1.out with ⟨rfl, h3⟩ | ⟨c, rfl, h3, h4, h5⟩
      · have hlast := sts_last bs i d hil Hd.out h3
        clear h3
        go_wp2
        go_ret2
        exact ⟨d, bs.length, rfl, .inr ⟨i, d, by first | rfl | assumption, hil, Hd.out, rfl, .inl ⟨hlast, rfl⟩⟩, by repeat (first | exact Below.refl _ _ | assumption | (refine Below.drew ?_) | (refine below_drewN ?_ _) | (refine bel_new ?_ _) | (refine bel_then ?_ (by assumption)))⟩
      · obtain ⟨n1, n2⟩ := sts_next bs i d c hil Hd.out h3 h4 h5
        have hlt : d < bs.length := by omega
        have N2 := Lib.hid n2
        clear h4 h5 n2
        obtain ⟨b, off, rfl, hbl, hc⟩ : ∃ b off, o = some ⟨b, off, none⟩ ∧ b < w.heap.size ∧ ∀ j u, (bs.map (Value.int .u8))[j]? = some u → w.cell? ⟨b, off + j, none⟩ = some u := by
          rcases Hr.out with ⟨h, _⟩ | h
          · omega
          · exact h
        have Hc := Lib.hid hc
        clear hc
        cases c with
        | zero =>
          go_wp2
          go_ret2
          exact ⟨d, d, rfl, .inr ⟨i, d, by first | rfl | assumption, hil, Hd.out, rfl, .inr ⟨0, n1, N2.out, .inr ⟨by omega, rfl⟩⟩⟩, by repeat (first | exact Below.refl _ _ | assumption | (refine Below.drew ?_) | (refine below_drewN ?_ _) | (refine bel_new ?_ _) | (refine bel_then ?_ (by assumption)))⟩
        | succ c =>
          obtain ⟨x, hx⟩ : ∃ x, x = bs.getD (d + c) 0 := ⟨_, rfl⟩
          have hcx : w.cell? ⟨b, off + (d + c), none⟩ = some (.int .u8 x) := by rw [hx]; exact Hc.out (d + c) _ (getElem?_ints (by omega))
          have Hx := Lib.hid hx
          clear hx
          go_wp2
          · have h13 : x = 13 := by
              have h : (x == 13) = true := by assumption
              simpa using h
            go_ret2
            refine ⟨d, _, rfl, .inr ⟨i, d, by first | rfl | assumption, hil, Hd.out, rfl, .inr ⟨c + 1, n1, N2.out, .inl ⟨by omega, ?_, ?_⟩⟩⟩, by repeat (first | exact Below.refl _ _ | assumption | (refine Below.drew ?_) | (refine below_drewN ?_ _) | (refine bel_new ?_ _) | (refine bel_then ?_ (by assumption)))⟩
            · rw [show d + (c + 1) - 1 = d + c from by omega, ← Hx.out]; exact h13
            · omega
          · have h13 : ¬ x = 13 := by
              have h : (x == 13) = false := by assumption
              simpa using h
            go_ret2
            refine ⟨d, _, rfl, .inr ⟨i, d, by first | rfl | assumption, hil, Hd.out, rfl, .inr ⟨c + 1, n1, N2.out, .inr ⟨?_, ?_⟩⟩⟩, by repeat (first | exact Below.refl _ _ | assumption | (refine Below.drew ?_) | (refine below_drewN ?_ _) | (refine bel_new ?_ _) | (refine bel_then ?_ (by assumption)))⟩
            · rw [show d + (c + 1) - 1 = d + c from by omega, ← Hx.out]; exact fun h => h13 h.2
            · omega
  · go_wp2
    go_ret2
    exact ⟨-1, -1, rfl, .inl ⟨hno, rfl, rfl⟩, by repeat (first | exact Below.refl _ _ | assumption | (refine Below.drew ?_) | (refine below_drewN ?_ _) | (refine bel_new ?_ _) | (refine bel_then ?_ (by assumption)))⟩
end Go.Proofs.Ytjeploipaejepaa
