/- The walks over package lines. -/
import Derived.Test.YtjeploipaejepaaChecked
import Derived.Test.YtjeploipaejepaaProg
import Derived.Test.YtjeploipaejepaaRows
import Derived.Test.YtjeploipaejepaaRowsOf
import Derived.WalkKit
import Derived.Lib.Hide
set_option linter.unusedVariables false
set_option linter.unusedSimpArgs false
namespace Go.Proofs.Ytjeploipaejepaa
open Go.RowKit

theorem infoInt : ∃ i, Try.prog.info? 3 = some i ∧ i.zero = some (.int .i64 0) ∧ i.size = 1 ∧ i.bytes = 8 := info_parts (by kernel_rfl)

set_option maxHeartbeats 1000000 in
set_option maxRecDepth 1000000 in
theorem breaks_any (f : Int) (bs : List Int) (v : Value) (w : World) (hf : 0 ≤ f ∧ f ≤ 1000000000) (hn : bs.length ≤ 100000) (hr : Row w v bs.length (bs.map (Value.int .u8))) (hu : ∀ x ∈ bs, 0 ≤ x ∧ x < 256) :
    Calls Try.prog 43 #[v, .int .i64 f] w fun e w' =>
      ∃ u, e = .returned u ∧ w'.ownsRow w.heap.size 3 1 u (brk bs f bs.length).length ((brk bs f bs.length).map (Value.int .i64)) ∧ Below w.heap.size w w' := by
  obtain ⟨i0, hi, hz0, hz1, hz2⟩ := infoInt
  obtain ⟨o, cap, rfl, hcap, hmax, hrow⟩ := hr
  go_enter Try.func43, Try.ntmps43
  go_wp2
  go_loopw [5, 10] (fun u i wr => ∃ k : Nat, k ≤ bs.length ∧ i = .int .i64 k ∧ wr.ownsRow w.heap.size 3 1 u (brk bs f k).length ((brk bs f k).map (Value.int .i64)) ∧ Below w.heap.size w wr)
    (fun _ i _ => bs.length - (intOf i).toNat)
  case atStart => exact ⟨0, Nat.zero_le _, rfl, World.ownsRow_nil _ _ _ _, Below.refl _ _⟩
  case round =>
    obtain ⟨k, hk, rfl, hown, hbel⟩ := hrel
    have hle := brk_le bs f k
    by_cases hk2 : k < bs.length
    · rcases hrow with h0 | ⟨b, off, rfl, hlt, hc⟩
      · omega
      obtain ⟨x, hx⟩ : ∃ x, x = bs.getD k 0 := ⟨_, rfl⟩
      have hcx : wr.cell? ⟨b, off + k, none⟩ = some (.int .u8 x) := by rw [hbel.cell hlt]; rw [hx]; exact hc k _ (getElem?_ints hk2)
      have Hx := Lib.hid hx
      clear hc hx
      go_wp2_with (first
        | (at_builtin; refine wpList_append_own _ rfl _ _ 23 rfl w.heap.size 3 i0 (.int .i64 0) 1 8 Try.underlying23 hi hz0 hz1 hz2 rfl (by decide) _ _ _ rfl (hown.alloc _) ⟨wr.heap.size, 0, none⟩ 1 1 [.int .i64 (f + k + 1)] rfl rfl ?c1 ?c2 ?c3 ?c4 ?c5 ?_)
        | go_in)
      case c1 =>
        intro j u hj
        match j, hj with
        | 0, hj => simp at hj; subst hj; simp [Addr.add]
      case c2 => intro u hu; simp at hu; subst hu; rfl
      case c3 => unfold maxLen; omega
      case c4 => omega
      case c5 => have := hbel.size; simp; omega
      · intro v' w1 hown' hgrow _
        have hx := Hx.out
        have h10 : x = 10 := by have h : (x == 10) = true := by assumption
                                simpa using h
        have hs : brk bs f (k + 1) = brk bs f k ++ [f + k + 1] := by simp only [brk]; rw [if_pos (by rw [← hx, h10])]
        have hB1 : Below w.heap.size w w1 := (hbel.alloc hbel.size _).grown hgrow (by have := hbel.size; simp; omega) (fun j hj => (hown.lt j hj).1)
        clear hgrow hown hbel hcx
        go_wp2
        go_roundw
        case rel => exact ⟨k + 1, by omega, by go_num, by rw [hs]; simpa using hown', hB1⟩
        case measure => simp [intOf]; omega
      · have hx := Hx.out
        have h10 : ¬ x = 10 := by have h : (x == 10) = false := by assumption
                                  simpa using h
        have hs : brk bs f (k + 1) = brk bs f k := by simp only [brk]; rw [if_neg (by rw [← hx]; exact h10)]
        go_roundw
        case rel => exact ⟨k + 1, by omega, by go_num, by rw [hs]; exact hown, hbel⟩
        case measure => simp [intOf]; omega
    · go_wp2
      have hkl : k = bs.length := by omega
      subst hkl
      go_ret
      exact ⟨_, rfl, hown, hbel⟩
end Go.Proofs.Ytjeploipaejepaa
