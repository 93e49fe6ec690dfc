/- decode, the reference: One. -/
import Derived.Test.YtkngppkchaadhaaDecRef1W
import Derived.Test.YtkngppkchaadhaaWordOne
import Derived.WalkSpells
set_option linter.unusedVariables false
set_option linter.unusedSimpArgs false
namespace Go.Proofs.Ytkngppkchaadhaa
open Go.RowKit De

namespace De
theorem and63L {x : Int} (h : 0 ≤ x ∧ x < 256) : bits .and .i64 x 63 = x % 64 := by
  have h1 := bits_mask .i64 62 (by decide) (fun n h0 h1 => by rw [IntKind.wrap_i64]; omega) 6 (by decide) x h.1 (by omega)
  exact h1
theorem join6L {r y : Int} (h0 : 0 ≤ r) (h1 : r < 16777216) (h : 0 ≤ y ∧ y < 256) : bits .or .i32 (wrap32 (r * 64)) (wrap32 (bits .and .i64 y 63)) = r * 64 + y % 64 := by
  have e : wrap32 (r * 64) = r * 64 := by unfold wrap32; first | (rw [IntKind.wrap_i32]; omega) | omega
  have e2 : wrap32 (y % 64) = y % 64 := by unfold wrap32; first | (rw [IntKind.wrap_i32]; omega) | omega
  rw [e, and63L h, e2]
  exact i32_or6 _ _ (by omega) (by omega) (by omega) (by omega) (by omega)
end De
/-- what One answers -/
def OneRPost (x : It) (k0 : Nat) (w : World) (e : Ending) (w' : World) : Prop :=
  e = .returned (.tuple #[.agg #[.int .i32 x.r, .int .i64 k0, .int .i64 ((k0 : Int) + x.n), .bool x.bad, .bool x.more], .bool (!x.opn)]) ∧ Below w.heap.size w w'

/-- what the loop of One has at its head -/
def OneAt (x : It) (l : List Int) (n : Nat) (lo hi : Int) (k : Nat) (r : Int) : Prop :=
  1 ≤ k ∧ k ≤ n ∧ k ≤ l.length ∧ 0 ≤ r ∧ r < 33554432 ∧ (k = 1 → r < 128) ∧ (k = 2 → r < 8192) ∧ (k = 3 → r < 524288) ∧
    x = go (n - k) k (if k = 1 then lo else 128) (if k = 1 then hi else 191) r (l.drop k)
theorem mask_ld {n : Nat} {c : Int} (h1 : 1 < n) (h4 : n ≤ 4) (hc : 0 ≤ c ∧ c < 256) : bits .and .i32 c (wrap32 (wrap32 (2 ^ (7 - n)) - 1)) = ld n c := by
  rcases (by omega : n = 2 ∨ n = 3 ∨ n = 4) with rfl | rfl | rfl
  · rw [show wrap32 (wrap32 (2 ^ (7 - 2)) - 1) = 31 by simp [wrap32, IntKind.wrap, IntKind.bits, IntKind.signed], and31 hc]; rfl
  · rw [show wrap32 (wrap32 (2 ^ (7 - 3)) - 1) = 15 by simp [wrap32, IntKind.wrap, IntKind.bits, IntKind.signed], and15 hc]; rfl
  · rw [show wrap32 (wrap32 (2 ^ (7 - 4)) - 1) = 7 by simp [wrap32, IntKind.wrap, IntKind.bits, IntKind.signed], and7 hc]; rfl
theorem OneAt.next {x : It} {l : List Int} {n k : Nat} {lo hi r y : Int} {t : List Int} (h : OneAt x l n lo hi k r) (hn : n ≤ 4) (hk : k < n) (hd : l.drop k = y :: t) (hy : 0 ≤ y ∧ y < 256)
    (hlo : (if k = 1 then lo else 128) ≤ y) (hhi : y ≤ (if k = 1 then hi else 191)) : OneAt x l n lo hi (k + 1) (r * 64 + y % 64) := by
  obtain ⟨h1, h2, h3, h4, h5, h6, h7, h8, h9⟩ := h
  have hl : k < l.length := by
    rcases Nat.lt_or_ge k l.length with h | h
    · exact h
    · rw [List.drop_eq_nil_of_le h] at hd; cases hd
  have ht : l.drop (k + 1) = t := by
    have : l.drop (k + 1) = (l.drop k).drop 1 := by rw [List.drop_drop]
    rw [this, hd]; rfl
  have hb : r < 524288 := by
    rcases (by omega : k = 1 ∨ k = 2 ∨ k = 3) with e | e | e
    · have := h6 e; omega
    · have := h7 e; omega
    · exact h8 e
  refine ⟨by omega, by omega, by omega, by omega, by omega, by omega, fun e => ?_, fun e => ?_, ?_⟩
  · have := h6 (by omega); omega
  · have := h7 (by omega); omega
  · rw [h9, hd, show n - k = (n - (k + 1)) + 1 by omega, go_hit hlo hhi, ht, if_neg (by omega), if_neg (by omega)]
theorem OneAt.miss {x : It} {l : List Int} {n k : Nat} {lo hi r y : Int} {t : List Int} (h : OneAt x l n lo hi k r) (hk : k < n) (hd : l.drop k = y :: t)
    (hm : ¬ ((if k = 1 then lo else 128) ≤ y ∧ y ≤ (if k = 1 then hi else 191))) : x = ⟨65533, k, true, true, false⟩ := by
  obtain ⟨h1, h2, h3, h4, h5, h6, h7, h8, h9⟩ := h
  rw [h9, hd, show n - k = (n - (k + 1)) + 1 by omega, go_miss hm]
theorem OneAt.last {x : It} {l : List Int} {n k : Nat} {lo hi r : Int} (h : OneAt x l n lo hi k r) (hk : k < n) (hd : l.drop k = []) : x = ⟨65533, k, true, true, true⟩ := by
  obtain ⟨h1, h2, h3, h4, h5, h6, h7, h8, h9⟩ := h
  rw [h9, hd, show n - k = (n - (k + 1)) + 1 by omega, go_nil]
theorem OneAt.done {x : It} {l : List Int} {n k : Nat} {lo hi r : Int} (h : OneAt x l n lo hi k r) (hk : ¬ k < n) : x = ⟨r, n, false, false, false⟩ := by
  obtain ⟨h1, h2, h3, h4, h5, h6, h7, h8, h9⟩ := h
  have e : k = n := by omega
  rw [h9, show n - k = 0 by omega, go_zero, e]

set_option maxHeartbeats 4000000 in
set_option maxRecDepth 1000000 in
theorem refOne_0 (s : ByteArray) (k0 : Nat) (w : World) (hk : k0 < s.size) (hs : s.size ≤ 1000000) (hn : (tbl (s[k0].toNat : Int)).1 = 0) :
    Calls Try.prog 57 #[.string s, .int .i64 k0] w (OneRPost (De.one ((sb s).drop k0)) k0 w) := by
  have hu := (s[k0]).toNat_lt
  obtain ⟨x, hx⟩ : ∃ x, x = De.one ((sb s).drop k0) := ⟨_, rfl⟩
  obtain ⟨l, hl⟩ : ∃ l, l = (sb s).drop k0 := ⟨_, rfl⟩
  have hll : l.length = s.size - k0 := by rw [hl, List.length_drop, sb_len]
  rw [← hx]
  rw [← hl] at hx
  obtain ⟨c, hc⟩ : ∃ c : Int, c = (s[k0].toNat : Int) := ⟨_, rfl⟩
  have hd : l = c :: (sb s).drop (k0 + 1) := by rw [hl, sb_drop s k0 hk, hc]
  have hcu : 0 ≤ c ∧ c < 256 := by omega
  obtain ⟨n, lo, hi, hT⟩ : ∃ n lo hi, tbl c = (n, lo, hi) := ⟨_, _, _, rfl⟩
  rw [← hc, hT] at hn
  simp only at hn
  have hn4 : n ≤ 4 := by have := tbl_n c; rw [hT] at this; exact this
  have hone : x = if n = 0 then ⟨65533, 1, true, false, false⟩ else go (n - 1) 1 lo hi (ld n c) ((sb s).drop (k0 + 1)) := by rw [hx, hd]; simp only [De.one, hT]
  have hsec := refSecond_any c
  rw [hT, hc] at hsec
  simp only at hsec
  have hat : n ≠ 0 → OneAt x l n lo hi 1 (ld n c) := by
    intro h0
    have e0 : l.drop 1 = (sb s).drop (k0 + 1) := by rw [hd]; rfl
    have hb : 0 ≤ ld n c ∧ ld n c < 128 := by
      unfold ld
      rcases tbl_cases c with ⟨k1, k⟩ | ⟨k1, k2, k⟩ | ⟨lo', hi', k1, k2, k, k3, k4, k5, k6⟩ | ⟨lo', hi', k1, k2, k, k3, k4, k5, k6⟩ | ⟨k1, k2, k⟩ <;> rw [hT] at k <;> simp only [Prod.mk.injEq] at k <;> obtain ⟨rfl, _, _⟩ := k <;> simp <;> omega
    refine ⟨Nat.le_refl _, by omega, by omega, hb.1, by omega, fun _ => hb.2, by omega, by omega, ?_⟩
    rw [hone, if_neg h0, if_pos rfl, if_pos rfl, e0]
  have HC := Lib.hid (And.intro hc (And.intro hone (And.intro hat hl)))
  have HL := Lib.hid hll
  clear hx hd hc hT hone hat hl hll
  subst hn
  go_enter Try.func57, Try.ntmps57
  go_wp2_with fail
  refine (hsec _ (by omega)).mono ?_
  rintro e w' ⟨rfl, rfl⟩
  go_wp2
  refine bodyPost_ret (v := .tuple #[.agg #[.int .i32 65533, .int .i64 k0, .int .i64 ((k0 : Int) + 1), .bool true, .bool false], .bool true]) (by simp [results, Try.results57, go_sem]) rfl ?_
  have h : x = ⟨65533, 1, true, false, false⟩ := by simpa using HC.out.2.1
  rw [h]
  exact ⟨rfl, bel_new (Below.refl _ _) _⟩

set_option maxHeartbeats 4000000 in
set_option maxRecDepth 1000000 in
theorem refOne_1 (s : ByteArray) (k0 : Nat) (w : World) (hk : k0 < s.size) (hs : s.size ≤ 1000000) (hn : (tbl (s[k0].toNat : Int)).1 = 1) :
    Calls Try.prog 57 #[.string s, .int .i64 k0] w (OneRPost (De.one ((sb s).drop k0)) k0 w) := by
  have hu := (s[k0]).toNat_lt
  obtain ⟨x, hx⟩ : ∃ x, x = De.one ((sb s).drop k0) := ⟨_, rfl⟩
  obtain ⟨l, hl⟩ : ∃ l, l = (sb s).drop k0 := ⟨_, rfl⟩
  have hll : l.length = s.size - k0 := by rw [hl, List.length_drop, sb_len]
  rw [← hx]
  rw [← hl] at hx
  obtain ⟨c, hc⟩ : ∃ c : Int, c = (s[k0].toNat : Int) := ⟨_, rfl⟩
  have hd : l = c :: (sb s).drop (k0 + 1) := by rw [hl, sb_drop s k0 hk, hc]
  have hcu : 0 ≤ c ∧ c < 256 := by omega
  obtain ⟨n, lo, hi, hT⟩ : ∃ n lo hi, tbl c = (n, lo, hi) := ⟨_, _, _, rfl⟩
  rw [← hc, hT] at hn
  simp only at hn
  have hn4 : n ≤ 4 := by have := tbl_n c; rw [hT] at this; exact this
  have hone : x = if n = 0 then ⟨65533, 1, true, false, false⟩ else go (n - 1) 1 lo hi (ld n c) ((sb s).drop (k0 + 1)) := by rw [hx, hd]; simp only [De.one, hT]
  have hsec := refSecond_any c
  rw [hT, hc] at hsec
  simp only at hsec
  have hat : n ≠ 0 → OneAt x l n lo hi 1 (ld n c) := by
    intro h0
    have e0 : l.drop 1 = (sb s).drop (k0 + 1) := by rw [hd]; rfl
    have hb : 0 ≤ ld n c ∧ ld n c < 128 := by
      unfold ld
      rcases tbl_cases c with ⟨k1, k⟩ | ⟨k1, k2, k⟩ | ⟨lo', hi', k1, k2, k, k3, k4, k5, k6⟩ | ⟨lo', hi', k1, k2, k, k3, k4, k5, k6⟩ | ⟨k1, k2, k⟩ <;> rw [hT] at k <;> simp only [Prod.mk.injEq] at k <;> obtain ⟨rfl, _, _⟩ := k <;> simp <;> omega
    refine ⟨Nat.le_refl _, by omega, by omega, hb.1, by omega, fun _ => hb.2, by omega, by omega, ?_⟩
    rw [hone, if_neg h0, if_pos rfl, if_pos rfl, e0]
  have HC := Lib.hid (And.intro hc (And.intro hone (And.intro hat hl)))
  have HL := Lib.hid hll
  clear hx hd hc hT hone hat hl hll
  have h0 : ¬ n = 0 := by omega
  subst hn
  go_enter Try.func57, Try.ntmps57
  go_wp2_with fail
  refine (hsec _ (by omega)).mono ?_
  rintro e w' ⟨rfl, rfl⟩
  go_wp2_with fail
  go_loop [9, 10] (fun r k => ∃ (kk : Nat) (rr : Int), r = .int .i32 rr ∧ k = .int .i64 kk ∧ OneAt x l 1 lo hi kk rr) (fun _ k => 1 - (intOf k).toNat)
  case atStart =>
    have h := HC.out.2.2.1 (by decide)
    have hcc := HC.out.1
    simp only [ld] at h
    rw [hcc] at h
    exact ⟨1, _, rfl, rfl, by simpa using h⟩
  case round =>
    obtain ⟨kk, r, rfl, rfl, hat⟩ := hrel
    have hb1 := hat.1
    have hb2 := hat.2.1
    have hb3 := hat.2.2.1
    have HT := Lib.hid hat
    clear hat
    by_cases hkn : kk < 1
    · omega
    · have hkN : kk = 1 := by omega
      subst hkN
      go_wp2
      refine bodyPost_ret (v := .tuple #[.agg #[.int .i32 r, .int .i64 k0, .int .i64 ((k0 : Int) + 1), .bool false, .bool false], .bool true]) (by simp [results, Try.results57, go_sem]) rfl ?_
      rw [HT.out.done (by omega)]
      exact ⟨rfl, bel_new (Below.refl _ _) _⟩

set_option maxHeartbeats 4000000 in
set_option maxRecDepth 1000000 in
theorem refOne_m (s : ByteArray) (k0 : Nat) (w : World) (hk : k0 < s.size) (hs : s.size ≤ 1000000) (hn : 2 ≤ (tbl (s[k0].toNat : Int)).1) :
    Calls Try.prog 57 #[.string s, .int .i64 k0] w (OneRPost (De.one ((sb s).drop k0)) k0 w) := by
  have hu := (s[k0]).toNat_lt
  obtain ⟨x, hx⟩ : ∃ x, x = De.one ((sb s).drop k0) := ⟨_, rfl⟩
  obtain ⟨l, hl⟩ : ∃ l, l = (sb s).drop k0 := ⟨_, rfl⟩
  have hll : l.length = s.size - k0 := by rw [hl, List.length_drop, sb_len]
  rw [← hx]
  rw [← hl] at hx
  obtain ⟨c, hc⟩ : ∃ c : Int, c = (s[k0].toNat : Int) := ⟨_, rfl⟩
  have hd : l = c :: (sb s).drop (k0 + 1) := by rw [hl, sb_drop s k0 hk, hc]
  have hcu : 0 ≤ c ∧ c < 256 := by omega
  obtain ⟨n, lo, hi, hT⟩ : ∃ n lo hi, tbl c = (n, lo, hi) := ⟨_, _, _, rfl⟩
  rw [← hc, hT] at hn
  simp only at hn
  have hn4 : n ≤ 4 := by have := tbl_n c; rw [hT] at this; exact this
  have hone : x = if n = 0 then ⟨65533, 1, true, false, false⟩ else go (n - 1) 1 lo hi (ld n c) ((sb s).drop (k0 + 1)) := by rw [hx, hd]; simp only [De.one, hT]
  have hsec := refSecond_any c
  rw [hT, hc] at hsec
  simp only at hsec
  have hat : n ≠ 0 → OneAt x l n lo hi 1 (ld n c) := by
    intro h0
    have e0 : l.drop 1 = (sb s).drop (k0 + 1) := by rw [hd]; rfl
    have hb : 0 ≤ ld n c ∧ ld n c < 128 := by
      unfold ld
      rcases tbl_cases c with ⟨k1, k⟩ | ⟨k1, k2, k⟩ | ⟨lo', hi', k1, k2, k, k3, k4, k5, k6⟩ | ⟨lo', hi', k1, k2, k, k3, k4, k5, k6⟩ | ⟨k1, k2, k⟩ <;> rw [hT] at k <;> simp only [Prod.mk.injEq] at k <;> obtain ⟨rfl, _, _⟩ := k <;> simp <;> omega
    refine ⟨Nat.le_refl _, by omega, by omega, hb.1, by omega, fun _ => hb.2, by omega, by omega, ?_⟩
    rw [hone, if_neg h0, if_pos rfl, if_pos rfl, e0]
  have HC := Lib.hid (And.intro hc (And.intro hone (And.intro hat hl)))
  have HL := Lib.hid hll
  clear hx hd hc hT hone hat hl hll
  have h0 : ¬ n = 0 := by omega
  have hm1 : 1 < n := by omega
  have hm2 : IntKind.u64.wrap (7 - (n : Int)) = 7 - n := by unfold IntKind.wrap; simp [IntKind.bits, IntKind.signed]; omega
  have hm3 : (0 : Int) ≤ 7 - (n : Int) := by omega
  have hm4 : ((n : Int) == 0) = false := by simp <;> omega
  have hm5 : decide ((1 : Int) < (n : Int)) = true := by simp <;> omega
  have hm6 : decide (1 < n) = true := by simp <;> omega
  go_enter Try.func57, Try.ntmps57
  go_wp2_with fail
  refine (hsec _ (by omega)).mono ?_
  rintro e w' ⟨rfl, rfl⟩
  go_wp2_with fail
  go_loop [9, 10] (fun r k => ∃ (kk : Nat) (rr : Int), r = .int .i32 rr ∧ k = .int .i64 kk ∧ OneAt x l n lo hi kk rr) (fun _ k => n - (intOf k).toNat)
  case atStart =>
    have h := HC.out.2.2.1 h0
    have hcc := HC.out.1
    refine ⟨1, _, rfl, rfl, ?_⟩
    rw [← hcc]
    have e : ∀ y : Int, y = ld n c → OneAt x l n lo hi 1 y := fun y hy => by rw [hy]; exact h
    exact e _ (mask_ld hm1 hn4 hcu)
  case round =>
    obtain ⟨kk, r, rfl, rfl, hat⟩ := hrel
    have hb1 := hat.1
    have hb2 := hat.2.1
    have hb3 := hat.2.2.1
    have HT := Lib.hid hat
    clear hat
    by_cases hkn : kk < n
    · by_cases hke : k0 + kk = s.size
      · have he : ((k0 : Int) + kk == (s.size : Int)) = true := by simp <;> omega
        have he2 : decide ((k0 : Int) + kk = (s.size : Int)) = true := by simp <;> omega
        go_wp2
        refine bodyPost_ret (v := .tuple #[.agg #[.int .i32 65533, .int .i64 k0, .int .i64 ((k0 : Int) + kk), .bool true, .bool true], .bool false]) (by simp [results, Try.results57, go_sem]) rfl ?_
        rw [HT.out.last hkn (List.drop_eq_nil_of_le (by have := HL.out; omega))]
        exact ⟨rfl, bel_new (Below.refl _ _) _⟩
      · have hlt : k0 + kk < s.size := by have := HL.out; omega
        have he : ((k0 : Int) + kk == (s.size : Int)) = false := by simp <;> omega
        have he2 : decide ((k0 : Int) + kk = (s.size : Int)) = false := by simp <;> omega
        have hyu := (s[k0 + kk]).toNat_lt
        have hdrop : l.drop kk = (s[k0 + kk].toNat : Int) :: (sb s).drop (k0 + kk + 1) := by
          rw [HC.out.2.2.2, List.drop_drop, sb_drop s (k0 + kk) hlt]
        have HD := Lib.hid hdrop
        clear hdrop
        by_cases hk1 : kk = 1
        · subst hk1
          by_cases g1 : (s[k0 + 1].toNat : Int) < lo
          · go_wp2
            refine bodyPost_ret (v := .tuple #[.agg #[.int .i32 65533, .int .i64 k0, .int .i64 ((k0 : Int) + 1), .bool true, .bool true], .bool true]) (by simp [results, Try.results57, go_sem]) rfl ?_
            rw [HT.out.miss hkn HD.out (by simp; omega)]
            exact ⟨rfl, bel_new (Below.refl _ _) _⟩
          by_cases g2 : hi < (s[k0 + 1].toNat : Int)
          · go_wp2
            refine bodyPost_ret (v := .tuple #[.agg #[.int .i32 65533, .int .i64 k0, .int .i64 ((k0 : Int) + 1), .bool true, .bool true], .bool true]) (by simp [results, Try.results57, go_sem]) rfl ?_
            rw [HT.out.miss hkn HD.out (by simp; omega)]
            exact ⟨rfl, bel_new (Below.refl _ _) _⟩
          · go_wp2
            go_round
            case rel =>
              have h := HT.out.next hn4 hkn HD.out (by omega) (by simp; omega) (by simp; omega)
              have hr := HT.out.2.2.2.1
              have hr6 := HT.out.2.2.2.2.2
              refine ⟨_, _, ?_, ?_, h⟩
              · exact int_eq (join6L (by omega) (by omega) (by omega))
              · go_num
            case measure => simp [intOf] <;> omega
        · have hq1 : ((kk : Int) == 1) = false := by simp <;> omega
          have hq2 : decide ((kk : Int) = 1) = false := by simp <;> omega
          have hq3 : 1 < kk := by omega
          by_cases g1 : (s[k0 + kk].toNat : Int) < 128
          · go_wp2
            refine bodyPost_ret (v := .tuple #[.agg #[.int .i32 65533, .int .i64 k0, .int .i64 ((k0 : Int) + kk), .bool true, .bool true], .bool true]) (by simp [results, Try.results57, go_sem]) rfl ?_
            rw [HT.out.miss hkn HD.out (by rw [if_neg hk1, if_neg hk1]; omega)]
            exact ⟨rfl, bel_new (Below.refl _ _) _⟩
          by_cases g2 : 191 < (s[k0 + kk].toNat : Int)
          · go_wp2
            refine bodyPost_ret (v := .tuple #[.agg #[.int .i32 65533, .int .i64 k0, .int .i64 ((k0 : Int) + kk), .bool true, .bool true], .bool true]) (by simp [results, Try.results57, go_sem]) rfl ?_
            rw [HT.out.miss hkn HD.out (by rw [if_neg hk1, if_neg hk1]; omega)]
            exact ⟨rfl, bel_new (Below.refl _ _) _⟩
          · go_wp2
            go_round
            case rel =>
              have h := HT.out.next hn4 hkn HD.out (by omega) (by rw [if_neg hk1]; omega) (by rw [if_neg hk1]; omega)
              have hr := HT.out.2.2.2.1
              have hr6 := HT.out.2.2.2.2.2
              refine ⟨_, _, ?_, ?_, h⟩
              · exact int_eq (join6L (by omega) (by omega) (by omega))
              · go_num
            case measure => simp [intOf] <;> omega
    · have hkN : kk = n := by omega
      subst hkN
      go_wp2
      refine bodyPost_ret (v := .tuple #[.agg #[.int .i32 r, .int .i64 k0, .int .i64 ((k0 : Int) + kk), .bool false, .bool false], .bool true]) (by simp [results, Try.results57, go_sem]) rfl ?_
      rw [HT.out.done (by omega)]
      exact ⟨rfl, bel_new (Below.refl _ _) _⟩

theorem refOne_any (s : ByteArray) (k0 : Nat) (w : World) (hk : k0 < s.size) (hs : s.size ≤ 1000000) :
    Calls Try.prog 57 #[.string s, .int .i64 k0] w (OneRPost (De.one ((sb s).drop k0)) k0 w) := by
  rcases (by omega : (tbl (s[k0].toNat : Int)).1 = 0 ∨ (tbl (s[k0].toNat : Int)).1 = 1 ∨ 2 ≤ (tbl (s[k0].toNat : Int)).1) with h | h | h
  · exact refOne_0 s k0 w hk hs h
  · exact refOne_1 s k0 w hk hs h
  · exact refOne_m s k0 w hk hs h
end Go.Proofs.Ytkngppkchaadhaa
