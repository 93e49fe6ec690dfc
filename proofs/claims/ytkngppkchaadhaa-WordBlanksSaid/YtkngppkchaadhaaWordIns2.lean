/- The texts of words where blanks are put in. -/
import Derived.Test.YtkngppkchaadhaaWordIns
import Derived.Test.YtkngppkchaadhaaConvRow
set_option linter.unusedVariables false
set_option linter.unusedSimpArgs false
namespace Go.Proofs.Ytkngppkchaadhaa
open Go.RowKit De Wd

theorem sb_inj {s t : ByteArray} (h : sb s = sb t) : s = t := by
  have h1 : s.data.toList = t.data.toList := by
    refine (List.map_inj_right (f := fun b : UInt8 => (b.toNat : Int)) ?_).1 h
    intro x y hxy
    exact UInt8.toNat.inj (Int.ofNat.inj hxy)
  have h2 : s.data = t.data := Array.toList_inj.1 h1
  cases s; cases t; simp only at h2; rw [h2]
theorem sb_ext (s : ByteArray) (a b : Nat) : sb (s.extract a b) = ((sb s).drop a).take (b - a) := by
  simp [sb, List.map_take, List.map_drop]
theorem sb_bl (j : Nat) (hj : j ≤ 5) : sb ((⟨#[32, 32, 32, 32, 32]⟩ : ByteArray).extract 0 j) = List.replicate j 32 := by
  rcases (by omega : j = 0 ∨ j = 1 ∨ j = 2 ∨ j = 3 ∨ j = 4 ∨ j = 5) with rfl | rfl | rfl | rfl | rfl | rfl <;> rfl
theorem sb_text (s B : ByteArray) (k j : Nat) (hk : k ≤ s.size) (hB : sb B = List.replicate j 32) : sb (s.extract 0 k ++ B ++ s.extract k s.size ++ (⟨#[10, 35, 32, 116, 111, 107, 32, 63, 32, 110, 111, 116, 104, 105, 110, 103]⟩ : ByteArray)) = ins j k (sb s) ++ 10 :: noteL := by
  rw [sb_append, sb_append, sb_append, sb_ext, sb_ext, hB]
  have h2 : ((sb s).drop k).take (s.size - k) = (sb s).drop k := List.take_of_length_le (by rw [List.length_drop, sb_len]; omega)
  rw [h2, Nat.sub_zero, List.drop_zero]
  unfold ins
  rw [List.append_assoc ((sb s).take k)]
  rfl
namespace Wd
theorem sc_apart (a : Nat) (l : List Int) : ∀ p ∈ (sc a l).1, ∀ q ∈ (sc a l).1, p.1 < q.1 → p.1 + p.2.z ≤ q.1 := by
  refine sc_ind (P := fun a l => ∀ p ∈ (sc a l).1, ∀ q ∈ (sc a l).1, p.1 < q.1 → p.1 + p.2.z ≤ q.1) ?_ ?_ ?_ a l
  · intro a p hp; rw [sc_nil] at hp; simp at hp
  · intro a l hl h p hp; rw [sc_none hl h] at hp; simp at hp
  · intro a l x h ih p hp q hq hlt
    have hge : ∀ q ∈ (sc (a + x.z) (l.drop x.z)).1, a + x.z ≤ q.1 := by
      intro q hq
      obtain ⟨k, hk⟩ := List.mem_iff_getElem?.1 hq
      exact ((sc_parts (a + x.z) (l.drop x.z)).1 k q.1 q.2 hk).1
    rw [sc_cons h] at hp hq
    simp only at hp hq
    split at hp
    · rename_i hk
      rw [if_pos hk] at hq
      exact ih p hp q hq hlt
    · rename_i hk
      rw [if_neg hk] at hq
      rw [List.mem_cons] at hp hq
      rcases hp with rfl | hp
      · rcases hq with rfl | hq
        · omega
        · exact hge q hq
      · rcases hq with rfl | hq
        · have := hge p hp; omega
        · exact ih p hp q hq hlt
theorem ins_low {n d c m : Nat} {l t : List Int} (hd : d ≤ l.length) (h : c + m ≤ d) : ((ins n d l ++ t).drop c).take m = (l.drop c).take m := by
  unfold ins
  rw [List.append_assoc, List.drop_append_of_le_length (by simp; omega), List.take_append_of_le_length (by simp; omega), List.drop_take, List.take_take]
  congr 1; omega
theorem ins_high {n d c m : Nat} {l t : List Int} (hd : d ≤ c) (h : c + m ≤ l.length) : ((ins n d l ++ t).drop (c + n)).take m = (l.drop c).take m := by
  unfold ins
  have e : l.take d ++ (List.replicate n 32 ++ l.drop d) ++ t = (l.take d ++ List.replicate n 32) ++ (l.drop d ++ t) := by simp
  have hl : (l.take d ++ List.replicate n (32 : Int)).length = d + n := by simp; omega
  rw [e, List.drop_append, List.drop_of_length_le (by omega), List.nil_append, hl, show c + n - (d + n) = c - d from by omega, List.drop_append_of_le_length (by simp; omega), List.drop_drop, show d + (c - d) = c from by omega, List.take_append_of_le_length (by simp; omega)]
end Wd
/-- a word's text is the same -/
theorem text_same {s T : ByteArray} {n b : Nat} {W : List (Nat × Wt)} {t : List Int} (hT : sb T = ins n b (sb s) ++ t) (hW : (sc 0 (sb s)).1 = W) {y : Wt} (hb : (b, y) ∈ W) {c : Nat} {x : Wt} (hc : (c, x) ∈ W) :
    T.extract ((if c < b then c else c + n) + x.o) ((if c < b then c else c + n) + x.o + x.n) = s.extract (c + x.o) (c + x.o + x.n) := by
  apply sb_inj
  rw [sb_ext, sb_ext, hT, Nat.add_sub_cancel_left, Nat.add_sub_cancel_left]
  obtain ⟨k, hk⟩ := List.mem_iff_getElem?.1 hc
  obtain ⟨_, q2, q3, q4⟩ := (sc_parts 0 (sb s)).1 k c x (by rw [hW]; exact hk)
  obtain ⟨k', hk'⟩ := List.mem_iff_getElem?.1 hb
  obtain ⟨_, r2, r3, r4⟩ := (sc_parts 0 (sb s)).1 k' b y (by rw [hW]; exact hk')
  obtain ⟨z1, z2, z3, z4, z5, z6, z7, z8⟩ := wd_ok q3
  rw [List.length_drop] at z2
  have hon : x.o + x.n ≤ x.z := by
    rcases (by omega : x.k = 0 ∨ (1 ≤ x.k ∧ x.k ≤ 3) ∨ x.k = 4 ∨ x.k = 5) with h | h | h | h
    · have := z5 h; omega
    · have := z6 h; omega
    · have := z7 h; omega
    · have := z8 h; omega
  by_cases hlt : c < b
  · rw [if_pos hlt]
    have := sc_apart 0 (sb s) (c, x) (by rw [hW]; exact hc) (b, y) (by rw [hW]; exact hb) hlt
    simp only at this
    exact ins_low (by omega) (by omega)
  · rw [if_neg hlt, show c + n + x.o = c + x.o + n from by omega]
    exact ins_high (by omega) (by omega)
theorem u64_modn (a : Int) (m : Nat) (hm : 0 < m) : ∃ i : Nat, i < m ∧ (IntKind.u64.wrap a).tmod (m : Int) = (i : Int) := by
  have h0 : 0 ≤ IntKind.u64.wrap a := by unfold IntKind.wrap; simp [IntKind.bits, IntKind.signed]; omega
  have h1 := Int.tmod_nonneg (m : Int) h0
  have h2 := Int.tmod_lt_of_pos (IntKind.u64.wrap a) (show (0 : Int) < m by omega)
  exact ⟨((IntKind.u64.wrap a).tmod m).toNat, by omega, by omega⟩
theorem wrap_small {m : Int} (h0 : 0 ≤ m) (h : m < 1000) : IntKind.u64.wrap m = m := by unfold IntKind.wrap; simp [IntKind.bits, IntKind.signed]; omega
end Go.Proofs.Ytkngppkchaadhaa
