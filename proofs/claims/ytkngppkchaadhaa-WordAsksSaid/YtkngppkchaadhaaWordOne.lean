/- word: one. -/
import Derived.Test.YtkngppkchaadhaaWordExpr
set_option linter.unusedVariables false
set_option linter.unusedSimpArgs false
namespace Go.Proofs.Ytkngppkchaadhaa
open Go.RowKit De Wd

theorem sb_extract (s : ByteArray) (a b : Nat) : sb (s.extract a b) = ((sb s).drop a).take (b - a) := by
  unfold sb
  rw [Lib.extract_data, List.map_take, List.map_drop]
theorem sb_from (s : ByteArray) (a : Nat) : sb (s.extract a s.size) = (sb s).drop a := by
  rw [sb_extract, List.take_of_length_le (by simp [sb_len])]
theorem ext_nil (s : ByteArray) (a : Nat) : s.extract a a = ByteArray.empty := by
  rw [Lib.extract_eq]; simp; rfl
theorem sign_ix : ∀ n : Nat, n < 256 → decide (0 ≤ Lib.indexByte [123, 125, 40, 41, 124, 42, 94, 60, 62, 58, 95, 61] n.toUInt8) = isSign n := by decide +kernel

/-- what a word is as a value -/
def wval (s : ByteArray) (a : Nat) (x : Wt) : List Value := [.int .i64 x.k, .string (s.extract (a + x.o) (a + x.o + x.n)), .int .i64 (if x.k = 0 then 0 else (a : Int))]
def OnePost (s : ByteArray) (a b : Nat) (w : World) (e : Ending) (w' : World) : Prop :=
  (∃ x, wd ((sb s).drop a) = some x ∧ e = .returned (.tuple #[.agg (wval s a x).toArray, .int .i64 x.z]) ∧ Below w.heap.size w w') ∨
  (wd ((sb s).drop a) = none ∧ e = flt 2 (min (a : Int) b) ∧ Below w.heap.size w w')
theorem one_yes {s : ByteArray} {a b : Nat} {w w' : World} {e : Ending} (x : Wt) (h : wd ((sb s).drop a) = some x) (he : e = .returned (.tuple #[.agg (wval s a x).toArray, .int .i64 x.z])) (hb : Below w.heap.size w w') : OnePost s a b w e w' := .inl ⟨x, h, he, hb⟩
theorem cells3_of {w : World} {p : Nat} {a b c : Value} {t : TypeId} (h : w.heap[p]? = some (.cells #[a, b, c] t (0, 0))) :
    (w.cell? ⟨p, 0, none⟩ = some a ∧ w.cell? ⟨p, 1, none⟩ = some b ∧ w.cell? ⟨p, 2, none⟩ = some c) ∧ w.frozen? ⟨p, 0, none⟩ = false ∧ w.frozen? ⟨p, 1, none⟩ = false ∧ w.frozen? ⟨p, 2, none⟩ = false := by
  simp [World.cell?, World.frozen?, h]
theorem one_no {s : ByteArray} {a b : Nat} {w w' : World} (h : wd ((sb s).drop a) = none) (hb : Below w.heap.size w w') : OnePost s a b w (flt 2 (min (a : Int) b)) w' := .inr ⟨h, rfl, hb⟩
theorem kept_blk {w w1 : World} {o : Obj} (hb : Below (w.alloc o).heap.size (w.alloc o) w1) : w1.heap[w.heap.size]? = some o ∧ Below w.heap.size w w1 ∧ w.heap.size < w1.heap.size := by
  refine ⟨?_, ?_, ?_⟩
  · rw [hb.block w.heap.size (by simp)]; exact heap_alloc_new w o
  · exact (bel_new (Below.refl _ _) o).trans (hb.mono (by simp))
  · have := hb.size; simp at this; omega

set_option maxHeartbeats 4000000 in
set_option maxRecDepth 100000 in
theorem one_b32 (s : ByteArray) (a b q : Nat) (w : World) (hs : s.size ≤ 100000) (ha : a < s.size) (hq : w.heap[q]? = some (.cells #[.int .i64 b] 3 (0, 0))) (c32 : (s[a].toNat : Int) = 32) :
    Calls Try.prog 17 #[.string s, .int .i64 a, failF q] w (OnePost s a b w) := by
  have HQ := Lib.hid hq
  have hD := sb_drop s a ha
  have HD := Lib.hid hD
  have hq1 : (w.alloc (.cells #[.int .i64 0, .string ⟨#[]⟩, .int .i64 0] 36)).heap[q]? = some (.cells #[.int .i64 b] 3 (0, 0)) := by
    rw [Below.heap_alloc _ _ _ (by rcases Nat.lt_or_ge q w.heap.size with h | h; exact h; simp [h] at hq)]; exact hq
  have HQ1 := Lib.hid hq1
  clear hq hD hq1
  have t32 : ((s[a].toNat : Int) == 32) = true := by simp [c32]
  have hw : wd ((sb s).drop a) = some ⟨0, 0, 0, 1⟩ := by rw [HD.out, wd, if_pos (.inl c32)]
  have HW := Lib.hid hw
  clear hw c32
  go_enter Try.func17, Try.ntmps17
  go_wp2
  refine bodyPost_ret (v := .tuple #[.agg (wval s a ⟨0, 0, 0, 1⟩).toArray, .int .i64 1]) (by simp [results, Try.results17, go_sem, wval, ext_nil]; try rfl) rfl (one_yes _ HW.out rfl (by first | exact bel_new (Below.refl _ _) _ | exact (((bel_new (Below.refl _ _) _).setCell (Nat.le_refl _) _).setCell (Nat.le_refl _) _).setCell (Nat.le_refl _) _))

set_option maxHeartbeats 4000000 in
set_option maxRecDepth 100000 in
theorem one_b9 (s : ByteArray) (a b q : Nat) (w : World) (hs : s.size ≤ 100000) (ha : a < s.size) (hq : w.heap[q]? = some (.cells #[.int .i64 b] 3 (0, 0))) (c32 : ¬ (s[a].toNat : Int) = 32) (c9 : (s[a].toNat : Int) = 9) :
    Calls Try.prog 17 #[.string s, .int .i64 a, failF q] w (OnePost s a b w) := by
  have HQ := Lib.hid hq
  have hD := sb_drop s a ha
  have HD := Lib.hid hD
  have hq1 : (w.alloc (.cells #[.int .i64 0, .string ⟨#[]⟩, .int .i64 0] 36)).heap[q]? = some (.cells #[.int .i64 b] 3 (0, 0)) := by
    rw [Below.heap_alloc _ _ _ (by rcases Nat.lt_or_ge q w.heap.size with h | h; exact h; simp [h] at hq)]; exact hq
  have HQ1 := Lib.hid hq1
  clear hq hD hq1
  have t32 : ((s[a].toNat : Int) == 32) = false := by simpa using c32
  have t9 : ((s[a].toNat : Int) == 9) = true := by simp [c9]
  have hw : wd ((sb s).drop a) = some ⟨0, 0, 0, 1⟩ := by rw [HD.out, wd, if_pos (.inr (.inl c9))]
  have HW := Lib.hid hw
  clear hw c32 c9
  go_enter Try.func17, Try.ntmps17
  go_wp2
  refine bodyPost_ret (v := .tuple #[.agg (wval s a ⟨0, 0, 0, 1⟩).toArray, .int .i64 1]) (by simp [results, Try.results17, go_sem, wval, ext_nil]; try rfl) rfl (one_yes _ HW.out rfl (by first | exact bel_new (Below.refl _ _) _ | exact (((bel_new (Below.refl _ _) _).setCell (Nat.le_refl _) _).setCell (Nat.le_refl _) _).setCell (Nat.le_refl _) _))

set_option maxHeartbeats 4000000 in
set_option maxRecDepth 100000 in
theorem one_b13 (s : ByteArray) (a b q : Nat) (w : World) (hs : s.size ≤ 100000) (ha : a < s.size) (hq : w.heap[q]? = some (.cells #[.int .i64 b] 3 (0, 0))) (c32 : ¬ (s[a].toNat : Int) = 32) (c9 : ¬ (s[a].toNat : Int) = 9) (c13 : (s[a].toNat : Int) = 13) :
    Calls Try.prog 17 #[.string s, .int .i64 a, failF q] w (OnePost s a b w) := by
  have HQ := Lib.hid hq
  have hD := sb_drop s a ha
  have HD := Lib.hid hD
  have hq1 : (w.alloc (.cells #[.int .i64 0, .string ⟨#[]⟩, .int .i64 0] 36)).heap[q]? = some (.cells #[.int .i64 b] 3 (0, 0)) := by
    rw [Below.heap_alloc _ _ _ (by rcases Nat.lt_or_ge q w.heap.size with h | h; exact h; simp [h] at hq)]; exact hq
  have HQ1 := Lib.hid hq1
  clear hq hD hq1
  have t32 : ((s[a].toNat : Int) == 32) = false := by simpa using c32
  have t9 : ((s[a].toNat : Int) == 9) = false := by simpa using c9
  have t13 : ((s[a].toNat : Int) == 13) = true := by simp [c13]
  have hw : wd ((sb s).drop a) = some ⟨0, 0, 0, 1⟩ := by rw [HD.out, wd, if_pos (.inr (.inr c13))]
  have HW := Lib.hid hw
  clear hw c32 c9 c13
  go_enter Try.func17, Try.ntmps17
  go_wp2
  refine bodyPost_ret (v := .tuple #[.agg (wval s a ⟨0, 0, 0, 1⟩).toArray, .int .i64 1]) (by simp [results, Try.results17, go_sem, wval, ext_nil]; try rfl) rfl (one_yes _ HW.out rfl (by first | exact bel_new (Below.refl _ _) _ | exact (((bel_new (Below.refl _ _) _).setCell (Nat.le_refl _) _).setCell (Nat.le_refl _) _).setCell (Nat.le_refl _) _))

set_option maxHeartbeats 4000000 in
set_option maxRecDepth 100000 in
theorem one_b35 (s : ByteArray) (a b q : Nat) (w : World) (hs : s.size ≤ 100000) (ha : a < s.size) (hq : w.heap[q]? = some (.cells #[.int .i64 b] 3 (0, 0))) (c32 : ¬ (s[a].toNat : Int) = 32) (c9 : ¬ (s[a].toNat : Int) = 9) (c13 : ¬ (s[a].toNat : Int) = 13) (c35 : (s[a].toNat : Int) = 35) :
    Calls Try.prog 17 #[.string s, .int .i64 a, failF q] w (OnePost s a b w) := by
  have HQ := Lib.hid hq
  have hD := sb_drop s a ha
  have HD := Lib.hid hD
  have hq1 : (w.alloc (.cells #[.int .i64 0, .string ⟨#[]⟩, .int .i64 0] 36)).heap[q]? = some (.cells #[.int .i64 b] 3 (0, 0)) := by
    rw [Below.heap_alloc _ _ _ (by rcases Nat.lt_or_ge q w.heap.size with h | h; exact h; simp [h] at hq)]; exact hq
  have HQ1 := Lib.hid hq1
  clear hq hD hq1
  have t32 : ((s[a].toNat : Int) == 32) = false := by simpa using c32
  have t9 : ((s[a].toNat : Int) == 9) = false := by simpa using c9
  have t13 : ((s[a].toNat : Int) == 13) = false := by simpa using c13
  have t35 : ((s[a].toNat : Int) == 35) = true := by simp [c35]
  have hw : wd ((sb s).drop a) = some ⟨0, 0, 0, rn notNl ((sb s).drop a)⟩ := by rw [HD.out, wd, if_neg (by omega), if_pos c35]
  have HW := Lib.hid hw
  have hrl := rn_le notNl ((sb s).drop a)
  rw [List.length_drop, sb_len] at hrl
  clear hw c32 c9 c13 c35
  go_enter Try.func17, Try.ntmps17
  go_wp2_with fail
  refine (run_notNl _ _ (by simp; omega)).mono ?_
  rintro e w' ⟨rfl, rfl⟩
  rw [sb_from]
  obtain ⟨z, hz⟩ : ∃ z, z = rn notNl ((sb s).drop a) := ⟨_, rfl⟩
  rw [← hz] at HW hrl ⊢
  clear hz
  go_wp2
  refine bodyPost_ret (v := .tuple #[.agg (wval s a ⟨0, 0, 0, z⟩).toArray, .int .i64 z]) (by simp [results, Try.results17, go_sem, wval, ext_nil]; try rfl) rfl (one_yes _ HW.out rfl (by first | exact bel_new (Below.refl _ _) _ | exact (((bel_new (Below.refl _ _) _).setCell (Nat.le_refl _) _).setCell (Nat.le_refl _) _).setCell (Nat.le_refl _) _))

set_option maxHeartbeats 4000000 in
set_option maxRecDepth 100000 in
theorem one_b10 (s : ByteArray) (a b q : Nat) (w : World) (hs : s.size ≤ 100000) (ha : a < s.size) (hq : w.heap[q]? = some (.cells #[.int .i64 b] 3 (0, 0))) (c32 : ¬ (s[a].toNat : Int) = 32) (c9 : ¬ (s[a].toNat : Int) = 9) (c13 : ¬ (s[a].toNat : Int) = 13) (c35 : ¬ (s[a].toNat : Int) = 35) (c10 : (s[a].toNat : Int) = 10) :
    Calls Try.prog 17 #[.string s, .int .i64 a, failF q] w (OnePost s a b w) := by
  have HQ := Lib.hid hq
  have hD := sb_drop s a ha
  have HD := Lib.hid hD
  have hq1 : (w.alloc (.cells #[.int .i64 0, .string ⟨#[]⟩, .int .i64 0] 36)).heap[q]? = some (.cells #[.int .i64 b] 3 (0, 0)) := by
    rw [Below.heap_alloc _ _ _ (by rcases Nat.lt_or_ge q w.heap.size with h | h; exact h; simp [h] at hq)]; exact hq
  have HQ1 := Lib.hid hq1
  clear hq hD hq1
  have t32 : ((s[a].toNat : Int) == 32) = false := by simpa using c32
  have t9 : ((s[a].toNat : Int) == 9) = false := by simpa using c9
  have t13 : ((s[a].toNat : Int) == 13) = false := by simpa using c13
  have t35 : ((s[a].toNat : Int) == 35) = false := by simpa using c35
  have t10 : ((s[a].toNat : Int) == 10) = true := by simp [c10]
  have hw : wd ((sb s).drop a) = some ⟨5, 0, 0, 1⟩ := by rw [HD.out, wd, if_neg (by omega), if_neg c35, if_pos c10]
  have HW := Lib.hid hw
  clear hw c32 c9 c13 c35 c10
  go_enter Try.func17, Try.ntmps17
  go_wp2
  refine bodyPost_ret (v := .tuple #[.agg (wval s a ⟨5, 0, 0, 1⟩).toArray, .int .i64 1]) (by simp [results, Try.results17, go_sem, wval, ext_nil]; try rfl) rfl (one_yes _ HW.out rfl (by first | exact bel_new (Below.refl _ _) _ | exact (((bel_new (Below.refl _ _) _).setCell (Nat.le_refl _) _).setCell (Nat.le_refl _) _).setCell (Nat.le_refl _) _))

set_option maxHeartbeats 4000000 in
set_option maxRecDepth 100000 in
theorem one_b47 (s : ByteArray) (a b q : Nat) (w : World) (hs : s.size ≤ 100000) (ha : a < s.size) (hq : w.heap[q]? = some (.cells #[.int .i64 b] 3 (0, 0))) (c32 : ¬ (s[a].toNat : Int) = 32) (c9 : ¬ (s[a].toNat : Int) = 9) (c13 : ¬ (s[a].toNat : Int) = 13) (c35 : ¬ (s[a].toNat : Int) = 35) (c10 : ¬ (s[a].toNat : Int) = 10) (c47 : (s[a].toNat : Int) = 47) :
    Calls Try.prog 17 #[.string s, .int .i64 a, failF q] w (OnePost s a b w) := by
  have HQ := Lib.hid hq
  have hD := sb_drop s a ha
  have HD := Lib.hid hD
  have hq1 : (w.alloc (.cells #[.int .i64 0, .string ⟨#[]⟩, .int .i64 0] 36)).heap[q]? = some (.cells #[.int .i64 b] 3 (0, 0)) := by
    rw [Below.heap_alloc _ _ _ (by rcases Nat.lt_or_ge q w.heap.size with h | h; exact h; simp [h] at hq)]; exact hq
  have HQ1 := Lib.hid hq1
  clear hq hD hq1
  have t32 : ((s[a].toNat : Int) == 32) = false := by simpa using c32
  have t9 : ((s[a].toNat : Int) == 9) = false := by simpa using c9
  have t13 : ((s[a].toNat : Int) == 13) = false := by simpa using c13
  have t35 : ((s[a].toNat : Int) == 35) = false := by simpa using c35
  have t10 : ((s[a].toNat : Int) == 10) = false := by simpa using c10
  have t47 : ((s[a].toNat : Int) == 47) = true := by simp [c47]
  have hw : wd ((sb s).drop a) = (ex false ((sb s).drop (a + 1))).map fun n => ⟨4, 1, n, n + 2⟩ := by rw [HD.out, wd, if_neg (by omega), if_neg c35, if_neg c10, if_pos c47]
  have HW := Lib.hid hw
  clear hw c32 c9 c13 c35 c10 c47
  go_enter Try.func17, Try.ntmps17
  go_wp2_with fail
  refine (expression_any s a b q _ hs ha HQ1.out).mono ?_
  rintro e w1 (⟨n, hn, rfl, hb1⟩ | ⟨hn, rfl, rfl⟩)
  · have hx := ex_some hn
    have hnl : a + 1 + n < s.size := by have := hx.1; rw [List.length_drop, sb_len] at this; omega
    rw [hn] at HW
    obtain ⟨hk, hB, hz⟩ := kept_blk hb1
    obtain ⟨⟨k0, k1, k2⟩, f0, f1, f2⟩ := cells3_of hk
    have hxs : (s.extract (a + 1) (a + 1 + n)).size = n := by simp; omega
    have HB := Lib.hid hB
    obtain ⟨tx, htx⟩ : ∃ tx, tx = s.extract (a + 1) (a + 1 + n) := ⟨_, rfl⟩
    rw [← htx] at hxs ⊢
    have HT := Lib.hid htx
    have HS := Lib.hid hxs
    have hts : tx.size ≤ 100000 := by omega
    clear hk hb1 hB hn hx htx hxs
    go_wp2
    rw [HS.out]
    refine bodyPost_ret (v := .tuple #[.agg (wval s a ⟨4, 1, n, n + 2⟩).toArray, .int .i64 ((n + 2 : Nat) : Int)]) (by simp [results, Try.results17, go_sem, wval, ← HT.out, f0, f1, f2, k0, k1, k2, hz]) rfl (one_yes _ HW.out rfl (((HB.out.setCell (Nat.le_refl _) _).setCell (Nat.le_refl _) _).setCell (Nat.le_refl _) _))
  · rw [hn] at HW
    go_wp2
    exact ⟨rfl, one_no HW.out (bel_new (Below.refl _ _) _)⟩

set_option maxHeartbeats 4000000 in
set_option maxRecDepth 100000 in
theorem one_low (s : ByteArray) (a b q : Nat) (w : World) (hs : s.size ≤ 100000) (ha : a < s.size) (hq : w.heap[q]? = some (.cells #[.int .i64 b] 3 (0, 0))) (c32 : ¬ (s[a].toNat : Int) = 32) (c9 : ¬ (s[a].toNat : Int) = 9) (c13 : ¬ (s[a].toNat : Int) = 13) (c35 : ¬ (s[a].toNat : Int) = 35) (c10 : ¬ (s[a].toNat : Int) = 10) (c47 : ¬ (s[a].toNat : Int) = 47) (cl : isLow (s[a].toNat : Int) = true) :
    Calls Try.prog 17 #[.string s, .int .i64 a, failF q] w (OnePost s a b w) := by
  have HQ := Lib.hid hq
  have hD := sb_drop s a ha
  have HD := Lib.hid hD
  have hq1 : (w.alloc (.cells #[.int .i64 0, .string ⟨#[]⟩, .int .i64 0] 36)).heap[q]? = some (.cells #[.int .i64 b] 3 (0, 0)) := by
    rw [Below.heap_alloc _ _ _ (by rcases Nat.lt_or_ge q w.heap.size with h | h; exact h; simp [h] at hq)]; exact hq
  have HQ1 := Lib.hid hq1
  clear hq hD hq1
  have t32 : ((s[a].toNat : Int) == 32) = false := by simpa using c32
  have t9 : ((s[a].toNat : Int) == 9) = false := by simpa using c9
  have t13 : ((s[a].toNat : Int) == 13) = false := by simpa using c13
  have t35 : ((s[a].toNat : Int) == 35) = false := by simpa using c35
  have t10 : ((s[a].toNat : Int) == 10) = false := by simpa using c10
  have t47 : ((s[a].toNat : Int) == 47) = false := by simpa using c47
  have hw : wd ((sb s).drop a) = some ⟨1, 0, rn lowDig ((sb s).drop a), rn lowDig ((sb s).drop a)⟩ := by rw [HD.out, wd, if_neg (by omega), if_neg c35, if_neg c10, if_neg c47, if_pos cl]
  have HW := Lib.hid hw
  have hrl := rn_le lowDig ((sb s).drop a)
  rw [List.length_drop, sb_len] at hrl
  have hrp : 1 ≤ rn lowDig ((sb s).drop a) := by rw [HD.out]; exact rn_pos (by simp [lowDig, cl])
  have hcl := fun w => isLower_any (s[a].toNat : Int) w
  rw [cl] at hcl
  have HCL := Lib.hid hcl
  clear hw hcl cl  c32 c9 c13 c35 c10 c47
  go_enter Try.func17, Try.ntmps17
  go_wp2_with fail
  refine (HCL.out _).mono ?_
  rintro e w' ⟨rfl, rfl⟩
  go_wp2_with fail
  refine (run_lowDig _ _ (by simp; omega)).mono ?_
  rintro e w' ⟨rfl, rfl⟩
  rw [sb_from]
  obtain ⟨z, hz⟩ : ∃ z, z = rn lowDig ((sb s).drop a) := ⟨_, rfl⟩
  rw [← hz] at HW hrl hrp ⊢
  clear hz
  have hii : (0 : Int) ≤ (a : Int) := by omega
  have hij : (a : Int) ≤ (a : Int) + (z : Int) := by omega
  have hik : (a : Int) + (z : Int) ≤ (s.size : Int) := by omega
  go_wp2_with fail
  refine (clone_any _ _ (by simp; omega)).mono ?_
  rintro e w1 ⟨rfl, hb1⟩
  obtain ⟨hk, hB, hzz⟩ := kept_blk hb1
  obtain ⟨⟨k0, k1, k2⟩, f0, f1, f2⟩ := cells3_of hk
  have HB := Lib.hid hB
  have hto : ((a : Int) + (z : Int)).toNat = a + z := by omega
  have hto2 : ((a : Int)).toNat = a := by omega
  clear hk hb1 hB
  go_wp2
  refine bodyPost_ret (v := .tuple #[.agg (wval s a ⟨1, 0, z, z⟩).toArray, .int .i64 z]) (by simp [results, Try.results17, go_sem, wval, f0, f1, f2, k0, k1, k2, hzz]) rfl (one_yes _ HW.out rfl (((HB.out.setCell (Nat.le_refl _) _).setCell (Nat.le_refl _) _).setCell (Nat.le_refl _) _))

set_option maxHeartbeats 4000000 in
set_option maxRecDepth 100000 in
theorem one_dig (s : ByteArray) (a b q : Nat) (w : World) (hs : s.size ≤ 100000) (ha : a < s.size) (hq : w.heap[q]? = some (.cells #[.int .i64 b] 3 (0, 0))) (c32 : ¬ (s[a].toNat : Int) = 32) (c9 : ¬ (s[a].toNat : Int) = 9) (c13 : ¬ (s[a].toNat : Int) = 13) (c35 : ¬ (s[a].toNat : Int) = 35) (c10 : ¬ (s[a].toNat : Int) = 10) (c47 : ¬ (s[a].toNat : Int) = 47) (cl : isLow (s[a].toNat : Int) = false) (cd : isDig (s[a].toNat : Int) = true) :
    Calls Try.prog 17 #[.string s, .int .i64 a, failF q] w (OnePost s a b w) := by
  have HQ := Lib.hid hq
  have hD := sb_drop s a ha
  have HD := Lib.hid hD
  have hq1 : (w.alloc (.cells #[.int .i64 0, .string ⟨#[]⟩, .int .i64 0] 36)).heap[q]? = some (.cells #[.int .i64 b] 3 (0, 0)) := by
    rw [Below.heap_alloc _ _ _ (by rcases Nat.lt_or_ge q w.heap.size with h | h; exact h; simp [h] at hq)]; exact hq
  have HQ1 := Lib.hid hq1
  clear hq hD hq1
  have t32 : ((s[a].toNat : Int) == 32) = false := by simpa using c32
  have t9 : ((s[a].toNat : Int) == 9) = false := by simpa using c9
  have t13 : ((s[a].toNat : Int) == 13) = false := by simpa using c13
  have t35 : ((s[a].toNat : Int) == 35) = false := by simpa using c35
  have t10 : ((s[a].toNat : Int) == 10) = false := by simpa using c10
  have t47 : ((s[a].toNat : Int) == 47) = false := by simpa using c47
  have hw : wd ((sb s).drop a) = some ⟨2, 0, rn isDig ((sb s).drop a), rn isDig ((sb s).drop a)⟩ := by rw [HD.out, wd, if_neg (by omega), if_neg c35, if_neg c10, if_neg c47, if_neg (by rw [cl]; decide), if_pos cd]
  have HW := Lib.hid hw
  have hrl := rn_le isDig ((sb s).drop a)
  rw [List.length_drop, sb_len] at hrl
  have hrp : 1 ≤ rn isDig ((sb s).drop a) := by rw [HD.out]; exact rn_pos (by exact cd)
  have hcl := fun w => isLower_any (s[a].toNat : Int) w
  rw [cl] at hcl
  have HCL := Lib.hid hcl
  have hcd := fun w => isDigit_any (s[a].toNat : Int) w
  rw [cd] at hcd
  have HCD := Lib.hid hcd
  clear hw hcl cl hcd cd c32 c9 c13 c35 c10 c47
  go_enter Try.func17, Try.ntmps17
  go_wp2_with fail
  refine (HCL.out _).mono ?_
  rintro e w' ⟨rfl, rfl⟩
  go_wp2_with fail
  refine (HCD.out _).mono ?_
  rintro e w' ⟨rfl, rfl⟩
  go_wp2_with fail
  refine (run_isDig _ _ (by simp; omega)).mono ?_
  rintro e w' ⟨rfl, rfl⟩
  rw [sb_from]
  obtain ⟨z, hz⟩ : ∃ z, z = rn isDig ((sb s).drop a) := ⟨_, rfl⟩
  rw [← hz] at HW hrl hrp ⊢
  clear hz
  have hii : (0 : Int) ≤ (a : Int) := by omega
  have hij : (a : Int) ≤ (a : Int) + (z : Int) := by omega
  have hik : (a : Int) + (z : Int) ≤ (s.size : Int) := by omega
  go_wp2_with fail
  refine (clone_any _ _ (by simp; omega)).mono ?_
  rintro e w1 ⟨rfl, hb1⟩
  obtain ⟨hk, hB, hzz⟩ := kept_blk hb1
  obtain ⟨⟨k0, k1, k2⟩, f0, f1, f2⟩ := cells3_of hk
  have HB := Lib.hid hB
  have hto : ((a : Int) + (z : Int)).toNat = a + z := by omega
  have hto2 : ((a : Int)).toNat = a := by omega
  clear hk hb1 hB
  go_wp2
  refine bodyPost_ret (v := .tuple #[.agg (wval s a ⟨2, 0, z, z⟩).toArray, .int .i64 z]) (by simp [results, Try.results17, go_sem, wval, f0, f1, f2, k0, k1, k2, hzz]) rfl (one_yes _ HW.out rfl (((HB.out.setCell (Nat.le_refl _) _).setCell (Nat.le_refl _) _).setCell (Nat.le_refl _) _))

set_option maxHeartbeats 4000000 in
set_option maxRecDepth 100000 in
theorem one_sign (s : ByteArray) (a b q : Nat) (w : World) (hs : s.size ≤ 100000) (ha : a < s.size) (hq : w.heap[q]? = some (.cells #[.int .i64 b] 3 (0, 0))) (c32 : ¬ (s[a].toNat : Int) = 32) (c9 : ¬ (s[a].toNat : Int) = 9) (c13 : ¬ (s[a].toNat : Int) = 13) (c35 : ¬ (s[a].toNat : Int) = 35) (c10 : ¬ (s[a].toNat : Int) = 10) (c47 : ¬ (s[a].toNat : Int) = 47) (cl : isLow (s[a].toNat : Int) = false) (cd : isDig (s[a].toNat : Int) = false) (cs : isSign (s[a].toNat : Int) = true) :
    Calls Try.prog 17 #[.string s, .int .i64 a, failF q] w (OnePost s a b w) := by
  have HQ := Lib.hid hq
  have hD := sb_drop s a ha
  have HD := Lib.hid hD
  have hq1 : (w.alloc (.cells #[.int .i64 0, .string ⟨#[]⟩, .int .i64 0] 36)).heap[q]? = some (.cells #[.int .i64 b] 3 (0, 0)) := by
    rw [Below.heap_alloc _ _ _ (by rcases Nat.lt_or_ge q w.heap.size with h | h; exact h; simp [h] at hq)]; exact hq
  have HQ1 := Lib.hid hq1
  clear hq hD hq1
  have t32 : ((s[a].toNat : Int) == 32) = false := by simpa using c32
  have t9 : ((s[a].toNat : Int) == 9) = false := by simpa using c9
  have t13 : ((s[a].toNat : Int) == 13) = false := by simpa using c13
  have t35 : ((s[a].toNat : Int) == 35) = false := by simpa using c35
  have t10 : ((s[a].toNat : Int) == 10) = false := by simpa using c10
  have t47 : ((s[a].toNat : Int) == 47) = false := by simpa using c47
  have hw : wd ((sb s).drop a) = some ⟨3, 0, 1, 1⟩ := by rw [HD.out, wd, if_neg (by omega), if_neg c35, if_neg c10, if_neg c47, if_neg (by rw [cl]; decide), if_neg (by rw [cd]; decide), if_pos cs]
  have HW := Lib.hid hw
  have hcl := fun w => isLower_any (s[a].toNat : Int) w
  rw [cl] at hcl
  have HCL := Lib.hid hcl
  have hcd := fun w => isDigit_any (s[a].toNat : Int) w
  rw [cd] at hcd
  have HCD := Lib.hid hcd
  have hsx := sign_ix s[a].toNat (by have := s[a].toNat_lt; omega)
  rw [cs] at hsx
  obtain ⟨ix, hix⟩ : ∃ ix, ix = Lib.indexByte [123, 125, 40, 41, 124, 42, 94, 60, 62, 58, 95, 61] s[a].toNat.toUInt8 := ⟨_, rfl⟩
  rw [← hix] at hsx
  have HX := Lib.hid hix
  clear hw hcl cl hcd cd cs hix c32 c9 c13 c35 c10 c47
  go_enter Try.func17, Try.ntmps17
  go_wp2_with fail
  refine (HCL.out _).mono ?_
  rintro e w' ⟨rfl, rfl⟩
  go_wp2_with fail
  refine (HCD.out _).mono ?_
  rintro e w' ⟨rfl, rfl⟩
  go_wp2_with fail
  refine (Any.strings_IndexByte Try.indexB _ _ _).mono ?_
  rintro e w' ⟨rfl, rfl⟩
  simp only [Int.toNat_natCast]
  rw [← HX.out]
  have hii : (0 : Int) ≤ (a : Int) := by omega
  have hij : (a : Int) ≤ (a : Int) + 1 := by omega
  have hik : (a : Int) + 1 ≤ (s.size : Int) := by omega
  go_wp2_with fail
  refine (clone_any _ _ (by simp; omega)).mono ?_
  rintro e w1 ⟨rfl, hb1⟩
  obtain ⟨hk, hB, hzz⟩ := kept_blk hb1
  obtain ⟨⟨k0, k1, k2⟩, f0, f1, f2⟩ := cells3_of hk
  have HB := Lib.hid hB
  clear hk hb1 hB
  go_wp2
  refine bodyPost_ret (v := .tuple #[.agg (wval s a ⟨3, 0, 1, 1⟩).toArray, .int .i64 1]) (by simp [results, Try.results17, go_sem, wval, f0, f1, f2, k0, k1, k2, hzz]) rfl (one_yes _ HW.out rfl (((HB.out.setCell (Nat.le_refl _) _).setCell (Nat.le_refl _) _).setCell (Nat.le_refl _) _))

set_option maxHeartbeats 4000000 in
set_option maxRecDepth 100000 in
theorem one_none (s : ByteArray) (a b q : Nat) (w : World) (hs : s.size ≤ 100000) (ha : a < s.size) (hq : w.heap[q]? = some (.cells #[.int .i64 b] 3 (0, 0))) (c32 : ¬ (s[a].toNat : Int) = 32) (c9 : ¬ (s[a].toNat : Int) = 9) (c13 : ¬ (s[a].toNat : Int) = 13) (c35 : ¬ (s[a].toNat : Int) = 35) (c10 : ¬ (s[a].toNat : Int) = 10) (c47 : ¬ (s[a].toNat : Int) = 47) (cl : isLow (s[a].toNat : Int) = false) (cd : isDig (s[a].toNat : Int) = false) (cs : isSign (s[a].toNat : Int) = false) :
    Calls Try.prog 17 #[.string s, .int .i64 a, failF q] w (OnePost s a b w) := by
  have HQ := Lib.hid hq
  have hD := sb_drop s a ha
  have HD := Lib.hid hD
  have hq1 : (w.alloc (.cells #[.int .i64 0, .string ⟨#[]⟩, .int .i64 0] 36)).heap[q]? = some (.cells #[.int .i64 b] 3 (0, 0)) := by
    rw [Below.heap_alloc _ _ _ (by rcases Nat.lt_or_ge q w.heap.size with h | h; exact h; simp [h] at hq)]; exact hq
  have HQ1 := Lib.hid hq1
  clear hq hD hq1
  have t32 : ((s[a].toNat : Int) == 32) = false := by simpa using c32
  have t9 : ((s[a].toNat : Int) == 9) = false := by simpa using c9
  have t13 : ((s[a].toNat : Int) == 13) = false := by simpa using c13
  have t35 : ((s[a].toNat : Int) == 35) = false := by simpa using c35
  have t10 : ((s[a].toNat : Int) == 10) = false := by simpa using c10
  have t47 : ((s[a].toNat : Int) == 47) = false := by simpa using c47
  have hw : wd ((sb s).drop a) = none := by rw [HD.out, wd, if_neg (by omega), if_neg c35, if_neg c10, if_neg c47, if_neg (by rw [cl]; decide), if_neg (by rw [cd]; decide), if_neg (by rw [cs]; decide)]
  have HW := Lib.hid hw
  have hcl := fun w => isLower_any (s[a].toNat : Int) w
  rw [cl] at hcl
  have HCL := Lib.hid hcl
  have hcd := fun w => isDigit_any (s[a].toNat : Int) w
  rw [cd] at hcd
  have HCD := Lib.hid hcd
  have hsx := sign_ix s[a].toNat (by have := s[a].toNat_lt; omega)
  rw [cs] at hsx
  obtain ⟨ix, hix⟩ : ∃ ix, ix = Lib.indexByte [123, 125, 40, 41, 124, 42, 94, 60, 62, 58, 95, 61] s[a].toNat.toUInt8 := ⟨_, rfl⟩
  rw [← hix] at hsx
  have HX := Lib.hid hix
  clear hw hcl cl hcd cd cs hix c32 c9 c13 c35 c10 c47
  go_enter Try.func17, Try.ntmps17
  go_wp2_with fail
  refine (HCL.out _).mono ?_
  rintro e w' ⟨rfl, rfl⟩
  go_wp2_with fail
  refine (HCD.out _).mono ?_
  rintro e w' ⟨rfl, rfl⟩
  go_wp2_with fail
  refine (Any.strings_IndexByte Try.indexB _ _ _).mono ?_
  rintro e w' ⟨rfl, rfl⟩
  simp only [Int.toNat_natCast]
  rw [← HX.out]
  go_wp2_with fail
  refine (fail_any q a b _ HQ1.out).mono ?_
  rintro e w' ⟨rfl, rfl⟩
  go_wp2
  exact ⟨rfl, one_no HW.out (bel_new (Below.refl _ _) _)⟩

theorem word_one_any (s : ByteArray) (a b q : Nat) (w : World) (hs : s.size ≤ 100000) (ha : a < s.size) (hq : w.heap[q]? = some (.cells #[.int .i64 b] 3 (0, 0))) :
    Calls Try.prog 17 #[.string s, .int .i64 a, failF q] w (OnePost s a b w) := by
  by_cases c32 : (s[a].toNat : Int) = 32
  · exact one_b32 s a b q w hs ha hq c32
  by_cases c9 : (s[a].toNat : Int) = 9
  · exact one_b9 s a b q w hs ha hq c32 c9
  by_cases c13 : (s[a].toNat : Int) = 13
  · exact one_b13 s a b q w hs ha hq c32 c9 c13
  by_cases c35 : (s[a].toNat : Int) = 35
  · exact one_b35 s a b q w hs ha hq c32 c9 c13 c35
  by_cases c10 : (s[a].toNat : Int) = 10
  · exact one_b10 s a b q w hs ha hq c32 c9 c13 c35 c10
  by_cases c47 : (s[a].toNat : Int) = 47
  · exact one_b47 s a b q w hs ha hq c32 c9 c13 c35 c10 c47
  cases cl : isLow (s[a].toNat : Int) with
  | true => exact one_low s a b q w hs ha hq c32 c9 c13 c35 c10 c47 cl
  | false =>
    cases cd : isDig (s[a].toNat : Int) with
    | true => exact one_dig s a b q w hs ha hq c32 c9 c13 c35 c10 c47 cl cd
    | false =>
      cases cs : isSign (s[a].toNat : Int) with
      | true => exact one_sign s a b q w hs ha hq c32 c9 c13 c35 c10 c47 cl cd cs
      | false => exact one_none s a b q w hs ha hq c32 c9 c13 c35 c10 c47 cl cd cs
end Go.Proofs.Ytkngppkchaadhaa
