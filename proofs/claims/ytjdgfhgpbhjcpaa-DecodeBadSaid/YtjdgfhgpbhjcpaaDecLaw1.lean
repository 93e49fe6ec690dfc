/- The walk of DecodeAsks. -/
import Derived.Test.YtjdgfhgpbhjcpaaDecTold
import Derived.Deep.RegionHeld
set_option linter.unusedVariables false
set_option linter.unusedSimpArgs false
namespace Go.Proofs.Ytjdgfhgpbhjcpaa
open Go.RowKit De

theorem strEq (s : ByteArray) (w : World) : (binOp .eql 9 (.string s) (.string s)).run Try.prog w = .ok (.bool true) w := by
  simp [go_sem]

set_option maxHeartbeats 4000000 in
set_option maxRecDepth 1000000 in
theorem decodeAsks_walk (bs : List Int) (v : Value) (r : Int) (w : World) (hr : Row w v bs.length (bs.map (Value.int .u8))) (hu : ∀ x ∈ bs, 0 ≤ x ∧ x < 256) (hrr : -2147483648 ≤ r ∧ r ≤ 2147483647) :
    Calls Try.prog 3 #[v, .int .i32 r] w fun e w' => e = .returned (.bool true) ∧ Below w.heap.size w w' := by
  have hmax := hr.le
  obtain ⟨ov, cv, rfl⟩ : ∃ o c, v = .slice o bs.length c := by obtain ⟨o, c, rfl, _⟩ := hr; exact ⟨_, _, rfl⟩
  by_cases hlen : 400 < bs.length
  · go_enter Try.func3, Try.ntmps3
    go_wp2_with (go_at_call 9; refine (told_any _).mono ?_; rintro e w1 ⟨rfl, hb1⟩)
    go_ret
    exact ⟨rfl, hb1⟩
  have hl1 : bs.length ≤ 400 := by omega
  have hsb := sb_nums bs hu
  have hss := strOfNums_size bs
  obtain ⟨s, hs⟩ : ∃ s, s = strOfNums bs := ⟨_, rfl⟩
  have hconv := fun (w : World) hr => hs ▸ conv_row (w := w) (o := ov) (cap := cv) (bs := bs) rfl hr
  rw [← hs] at hsb hss
  have hra := fun (w : World) => refAll_any s w (by omega)
  rw [hsb] at hra
  have hrp := fun (w : World) => refPut_any r w hrr
  have hlb := all_len 0 bs
  obtain ⟨L, hL⟩ : ∃ L, L = all 0 bs := ⟨_, rfl⟩
  have hla := fun (w : World) hr => all_any bs (.slice ov bs.length cv) w hr hu (by omega)
  rw [← hL] at hra hla hlb
  obtain ⟨q, hq⟩ : ∃ q, q = strOfNums (put r) := ⟨_, rfl⟩
  rw [← hq] at hrp
  have hse := strEq q
  have HC := Lib.hid (And.intro hconv hq)
  have HR := Lib.hid (And.intro hra (And.intro hla hrp))
  clear hsb hss hconv hra hla hrp hL hs hlen hq hu
  go_enter Try.func3, Try.ntmps3
  go_wp2_with fail
  have hc0 := HC.out.1 w.drew (hr.below (Below.refl _ _).drew)
  go_region_held (fun w' => (convert 22 9 (.slice ov bs.length cv)).run Try.prog w' = .ok (.string s) w')
    (first | assumption | go_keep)
    (first
     | (go_at_call 9; refine (told_any _).mono ?_; rintro e w1 ⟨rfl, hb1⟩; have hB1 : Below w.heap.size w w1 := bel_then (Below.refl _ _).drew hb1; have hc1 := HC.out.1 w1 (hr.below hB1))
     | (go_at_call 11; refine (HR.out.2.1 _ (hr.below hB1)).mono ?_; rintro e w2 ⟨u2, rfl, hown2, hb2⟩; have hB2 : Below w.heap.size w w2 := bel_then hB1 hb2; have hc2 := HC.out.1 w2 (hr.below hB2))
     | (go_at_call 12; refine (HR.out.1 _).mono ?_; rintro e w3 ⟨u3, rfl, hown3, hb3⟩; have hB3 : Below w.heap.size w w3 := bel_then hB2 hb3; have hown23 := owns_below hown2 hb3; have hc3 := HC.out.1 w3 (hr.below hB3))
     | (go_at_call 10; refine (items_same L _ _ _ (Row.owned hown23) (Row.owned hown3) (by omega)).mono ?_; rintro e w4 ⟨rfl, hb4⟩; have hB4 : Below w.heap.size w w4 := bel_then hB3 hb4; have hc4 := HC.out.1 w4 (hr.below hB4))
     | (go_at_call 13; refine (put_any r _ hrr).mono ?_; rintro e w5 ⟨u5, rfl, hown5, hb5⟩; obtain ⟨o5, c5, rfl⟩ := owns_slice hown5; have hB5 : Below w.heap.size w w5 := bel_then hB4 hb5; have hc5 := HC.out.1 w5 (hr.below hB5); have hq5 := conv_row (bs := put r) rfl (Row.owned hown5); rw [← HC.out.2] at hq5)
     | (go_at_call 14; refine (HR.out.2.2 _).mono ?_; rintro e w6 ⟨rfl, hb6⟩; have hB6 : Below w.heap.size w w6 := bel_then hB5 hb6; have hc6 := HC.out.1 w6 (hr.below hB6); have hq6 := conv_row (bs := put r) rfl ((Row.owned hown5).below hb6); rw [← HC.out.2] at hq6))
  all_goals (
    go_wp2
    go_ret
    exact ⟨rfl, by assumption⟩)
end Go.Proofs.Ytjdgfhgpbhjcpaa
