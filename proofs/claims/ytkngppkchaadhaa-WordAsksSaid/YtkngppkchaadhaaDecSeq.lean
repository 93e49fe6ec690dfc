/- decode: sequence. -/
import Derived.Test.YtkngppkchaadhaaDecNext
import Derived.Laws.BitsLemmas
set_option linter.unusedVariables false
set_option linter.unusedSimpArgs false
namespace Go.Proofs.Ytkngppkchaadhaa
open Go.RowKit De

namespace De
theorem and31 {x : Int} (h : 0 ≤ x ∧ x < 256) : bits .and .i32 x 31 = x % 32 := bits_mask .i32 31 (by decide) wraps_i32 5 (by decide) x h.1 (by omega)
theorem and15 {x : Int} (h : 0 ≤ x ∧ x < 256) : bits .and .i32 x 15 = x % 16 := bits_mask .i32 31 (by decide) wraps_i32 4 (by decide) x h.1 (by omega)
theorem and7 {x : Int} (h : 0 ≤ x ∧ x < 256) : bits .and .i32 x 7 = x % 8 := bits_mask .i32 31 (by decide) wraps_i32 3 (by decide) x h.1 (by omega)
theorem and63 {x : Int} (h : 0 ≤ x ∧ x < 256) : bits .and .i32 x 63 = x % 64 := bits_mask .i32 31 (by decide) wraps_i32 6 (by decide) x h.1 (by omega)
theorem join6 {r y : Int} (h0 : 0 ≤ r) (h1 : r < 16777216) (h : 0 ≤ y ∧ y < 256) : bits .or .i32 (wrap32 (r * 64)) (bits .and .i32 y 63) = r * 64 + y % 64 := by
  have e : wrap32 (r * 64) = r * 64 := by unfold wrap32; first | (rw [IntKind.wrap_i32]; omega) | omega
  rw [e, and63 h]
  exact i32_or6 _ _ (by omega) (by omega) (by omega) (by omega) (by omega)
theorem one1 {c : Int} {t : List Int} (h : c < 128) : one (c :: t) = ⟨c, 1, false, false, false⟩ := by
  simp [one, tbl1 h, ld, go]
theorem one0 {c : Int} {t : List Int} (h1 : 128 ≤ c) (h2 : c < 194 ∨ 244 < c) : one (c :: t) = ⟨65533, 1, true, false, false⟩ := by
  simp [one, tbl0 h1 h2]
theorem one2 {c : Int} {t : List Int} (h1 : 194 ≤ c) (h2 : c ≤ 223) : one (c :: t) = go 1 1 128 191 (c % 32) t := by
  simp [one, tbl2 h1 h2, ld]
theorem one3 {c : Int} {t : List Int} (h1 : 224 ≤ c) (h2 : c ≤ 239) : one (c :: t) = go 2 1 (if c = 224 then 160 else if c = 240 then 144 else 128) (if c = 237 then 159 else if c = 244 then 143 else 191) (c % 16) t := by
  simp only [one, tbl3 h1 h2, ld]
  simp [show ¬ c = 240 by omega, show ¬ c = 244 by omega]
theorem one4 {c : Int} {t : List Int} (h1 : 240 ≤ c) (h2 : c ≤ 244) : one (c :: t) = go 3 1 (if c = 224 then 160 else if c = 240 then 144 else 128) (if c = 237 then 159 else if c = 244 then 143 else 191) (c % 8) t := by
  simp only [one, tbl4 h1 h2, ld]
  simp [show ¬ c = 224 by omega, show ¬ c = 237 by omega]
theorem go_nil {m k : Nat} {lo hi r : Int} : go (m + 1) k lo hi r [] = ⟨65533, k, true, true, true⟩ := rfl
theorem go_miss {m k : Nat} {lo hi r c : Int} {t : List Int} (h : ¬ (lo ≤ c ∧ c ≤ hi)) : go (m + 1) k lo hi r (c :: t) = ⟨65533, k, true, true, false⟩ := by
  simp only [go]; rw [if_neg h]
theorem go_zero {k : Nat} {lo hi r : Int} {t : List Int} : go 0 k lo hi r t = ⟨r, k, false, false, false⟩ := by cases t <;> rfl
end De

theorem ret_int {k : IntKind} {a b : Int} (h : a = b) : Ending.returned (.int k a) = .returned (.int k b) := by rw [h]
def gd (x : It) : Nat := if x.bad = true ∧ x.more = false then 0 else x.n
def SeqPost (wr : World) (qg qb : Nat) (v : Value) (bs : List Int) (w : World) (e : Ending) (w' : World) : Prop :=
  (((one bs).bad = false ∧ e = .returned (.int .i32 (one bs).r)) ∨ ((one bs).bad = true ∧ e = broke (one bs).opn)) ∧ St wr w' qg qb (gd (one bs)) v bs ∧ But w w' w.heap.size qg qg
theorem But.one' (w : World) (q : Nat) (x : Value) : But w (w.setCell ⟨q, 0, none⟩ x) w.heap.size q q := (But.of (Below.refl _ _)).setA _
theorem seqP {wr w w' : World} {qg qb : Nat} {v : Value} {bs : List Int} {e : Ending} {r : Int} {n : Nat} (h : one bs = ⟨r, n, false, false, false⟩) (he : e = .returned (.int .i32 r)) (hS : St wr w' qg qb n v bs) (hb : But w w' w.heap.size qg qg) : SeqPost wr qg qb v bs w e w' := by
  unfold SeqPost
  rw [h]
  exact ⟨.inl ⟨rfl, he⟩, by simpa [gd] using hS, hb⟩
theorem seqB {wr w w' : World} {qg qb : Nat} {v : Value} {bs : List Int} {r : Int} {n : Nat} {o : Bool} (h : one bs = ⟨r, n, true, true, o⟩) (hS : St wr w' qg qb n v bs) (hb : But w w' w.heap.size qg qg) : SeqPost wr qg qb v bs w (broke o) w' := by
  unfold SeqPost
  rw [h]
  exact ⟨.inr ⟨rfl, rfl⟩, by simpa [gd] using hS, hb⟩
theorem seqZ {wr w : World} {qg qb : Nat} {v : Value} {bs : List Int} {r : Int} {n : Nat} (h : one bs = ⟨r, n, true, false, false⟩) (hS : St wr w qg qb 0 v bs) : SeqPost wr qg qb v bs w (broke false) w := by
  unfold SeqPost
  rw [h]
  exact ⟨.inr ⟨rfl, rfl⟩, by simpa [gd] using hS, But.of (Below.refl _ _)⟩
theorem tl_of {c y : Int} {t : List Int} {k : Nat} (h : (c :: t)[k + 1]? = some y) : t[k]? = some y := by simpa using h
theorem hd_of {y : Int} {t : List Int} (h : t[0]? = some y) : ∃ t', t = y :: t' := by
  cases t with
  | nil => simp at h
  | cons a t => exact ⟨t, by simp at h; rw [h]⟩
theorem none_of {t : List Int} (h : t[0]? = none) : t = [] := by
  cases t with
  | nil => rfl
  | cons a t => simp at h

set_option maxHeartbeats 1000000 in
set_option maxRecDepth 1000000 in
theorem seq1 (wr : World) (qg qb : Nat) (v : Value) (c : Int) (t : List Int) (w : World) (hS : St wr w qg qb 0 v (c :: t)) (hu : ∀ x ∈ c :: t, 0 ≤ x ∧ x < 256) (hc : c < 128) :
    Calls Try.prog 60 #[.int .u8 c, .func (Fn.func 59) #[] #[.pointer (some ⟨qg, 0, none⟩), .pointer (some ⟨qb, 0, none⟩)]] w (SeqPost wr qg qb v (c :: t) w) := by
  have hcu := hu c (by simp)
  go_enter Try.func60, Try.ntmps60
  go_wp2_with fail
  refine (next_any wr qg qb 0 v (c :: t) 0 127 w hS (by simp) hu).mono ?_
  rintro e w1 (⟨x, hx, h1, h2, rfl, rfl⟩ | ⟨hx, rfl, rfl⟩ | ⟨x, hx, h1, rfl, rfl⟩)
  · obtain rfl : x = c := by simpa using hx.symm
    go_wp2
    go_ret
    exact seqP (one1 hc) rfl (hS.step 1) (But.one' _ _ _)
  · simp at hx
  · obtain rfl : x = c := by simpa using hx.symm
    omega

set_option maxHeartbeats 1000000 in
set_option maxRecDepth 1000000 in
theorem seq2 (wr : World) (qg qb : Nat) (v : Value) (c : Int) (t : List Int) (w : World) (hS : St wr w qg qb 0 v (c :: t)) (hu : ∀ x ∈ c :: t, 0 ≤ x ∧ x < 256) (hc : 128 ≤ c) (hc2 : c < 224) :
    Calls Try.prog 60 #[.int .u8 c, .func (Fn.func 59) #[] #[.pointer (some ⟨qg, 0, none⟩), .pointer (some ⟨qb, 0, none⟩)]] w (SeqPost wr qg qb v (c :: t) w) := by
  have hcu := hu c (by simp)
  go_enter Try.func60, Try.ntmps60
  go_wp2_with fail
  refine (next_any wr qg qb 0 v (c :: t) 194 223 w hS (by simp) hu).mono ?_
  rintro e w1 (⟨x, hx, h1, h2, rfl, rfl⟩ | ⟨hx, rfl, rfl⟩ | ⟨x, hx, h1, rfl, rfl⟩)
  · obtain rfl : x = c := by simpa using hx.symm
    have hS1 := hS.step 1
    have hb1 := But.one' w qg (.int .i64 ((1 : Nat) : Int))
    clear hx
    go_wp2_with fail
    refine (next_any wr qg qb 1 v (x :: t) 128 191 _ hS1 (by simp) hu).mono ?_
    rintro e w1 (⟨y, hy, h3, h4, rfl, rfl⟩ | ⟨hy, rfl, rfl⟩ | ⟨y, hy, h3, rfl, rfl⟩)
    · obtain ⟨t', rfl⟩ := hd_of (tl_of hy)
      have hyu := hu y (by simp)
      clear hy
      go_wp2
      go_ret
      refine seqP (by rw [one2 h1 h2, go_hit h3 h4, go_zero]) (ret_int ?_) (hS1.step 2) (hb1.setA _)
      rw [and31 hcu, join6 (by omega) (by omega) hyu]
    · obtain rfl := none_of (t := t) (by simpa using hy)
      go_wp2
      exact ⟨rfl, seqB (by rw [one2 h1 h2, go_nil]) hS1 hb1⟩
    · obtain ⟨t', rfl⟩ := hd_of (tl_of hy)
      go_wp2
      exact ⟨rfl, seqB (by rw [one2 h1 h2, go_miss h3]) hS1 hb1⟩
  · simp at hx
  · obtain rfl : x = c := by simpa using hx.symm
    go_wp2
    exact ⟨rfl, seqZ (one0 hc (by omega)) hS⟩

set_option maxHeartbeats 2000000 in
set_option maxRecDepth 1000000 in
theorem seq3 (wr : World) (qg qb : Nat) (v : Value) (c : Int) (t : List Int) (w : World) (hS : St wr w qg qb 0 v (c :: t)) (hu : ∀ x ∈ c :: t, 0 ≤ x ∧ x < 256) (hc : 224 ≤ c) (hc2 : c < 240) :
    Calls Try.prog 60 #[.int .u8 c, .func (Fn.func 59) #[] #[.pointer (some ⟨qg, 0, none⟩), .pointer (some ⟨qb, 0, none⟩)]] w (SeqPost wr qg qb v (c :: t) w) := by
  have hcu := hu c (by simp)
  go_enter Try.func60, Try.ntmps60
  go_wp2_with fail
  refine (next_any wr qg qb 0 v (c :: t) 224 239 w hS (by simp) hu).mono ?_
  rintro e w1 (⟨x, hx, h1, h2, rfl, rfl⟩ | ⟨hx, rfl, rfl⟩ | ⟨x, hx, h1, rfl, rfl⟩)
  · obtain rfl : x = c := by simpa using hx.symm
    have hS1 := hS.step 1
    have hb1 := But.one' w qg (.int .i64 ((1 : Nat) : Int))
    have HO := Lib.hid (one3 (t := t) h1 h2)
    clear hx
    go_wp2_with fail
    refine (second_any x _).mono ?_
    rintro e w' ⟨rfl, rfl⟩
    obtain ⟨lo, hlo⟩ : ∃ lo : Int, lo = (if x = 224 then 160 else if x = 240 then 144 else 128) := ⟨_, rfl⟩
    obtain ⟨hi, hhi⟩ : ∃ hi : Int, hi = (if x = 237 then 159 else if x = 244 then 143 else 191) := ⟨_, rfl⟩
    have HP : Hid (one (x :: t) = go 2 1 lo hi (x % 16) t) := Lib.hid (by rw [HO.out, hlo, hhi])
    rw [← hlo, ← hhi]
    clear HO hlo hhi
    go_wp2_with fail
    refine (next_any wr qg qb 1 v (x :: t) lo hi _ hS1 (by simp) hu).mono ?_
    rintro e w1 (⟨y, hy, h3, h4, rfl, rfl⟩ | ⟨hy, rfl, rfl⟩ | ⟨y, hy, h3, rfl, rfl⟩)
    · obtain ⟨t', rfl⟩ := hd_of (tl_of hy)
      have hyu := hu y (by simp)
      have hS2 := hS1.step 2
      have hb2 := hb1.setA (i := 0) (.int .i64 ((2 : Nat) : Int))
      clear hy
      go_wp2_with fail
      refine (next_any wr qg qb 2 v (x :: y :: t') 128 191 _ hS2 (by simp) hu).mono ?_
      rintro e w1 (⟨z, hz, h5, h6, rfl, rfl⟩ | ⟨hz, rfl, rfl⟩ | ⟨z, hz, h5, rfl, rfl⟩)
      · obtain ⟨t', rfl⟩ := hd_of (tl_of (tl_of hz))
        have hzu := hu z (by simp)
        clear hz
        go_wp2
        go_ret
        refine seqP (by rw [HP.out, go_hit h3 h4, go_hit h5 h6, go_zero]) (ret_int ?_) (hS2.step 3) (hb2.setA _)
        rw [and15 hcu, join6 (r := x % 16) (by omega) (by omega) hyu, join6 (by omega) (by omega) hzu]
      · obtain rfl := none_of (t := t') (by simpa using hz)
        go_wp2
        exact ⟨rfl, seqB (by rw [HP.out, go_hit h3 h4, go_nil]) hS2 hb2⟩
      · obtain ⟨t', rfl⟩ := hd_of (tl_of (tl_of hz))
        go_wp2
        exact ⟨rfl, seqB (by rw [HP.out, go_hit h3 h4, go_miss h5]) hS2 hb2⟩
    · obtain rfl := none_of (t := t) (by simpa using hy)
      go_wp2
      exact ⟨rfl, seqB (by rw [HP.out, go_nil]) hS1 hb1⟩
    · obtain ⟨t', rfl⟩ := hd_of (tl_of hy)
      go_wp2
      exact ⟨rfl, seqB (by rw [HP.out, go_miss h3]) hS1 hb1⟩
  · simp at hx
  · obtain rfl : x = c := by simpa using hx.symm
    omega

set_option maxHeartbeats 2000000 in
set_option maxRecDepth 1000000 in
theorem seq4 (wr : World) (qg qb : Nat) (v : Value) (c : Int) (t : List Int) (w : World) (hS : St wr w qg qb 0 v (c :: t)) (hu : ∀ x ∈ c :: t, 0 ≤ x ∧ x < 256) (hc : 240 ≤ c) :
    Calls Try.prog 60 #[.int .u8 c, .func (Fn.func 59) #[] #[.pointer (some ⟨qg, 0, none⟩), .pointer (some ⟨qb, 0, none⟩)]] w (SeqPost wr qg qb v (c :: t) w) := by
  have hcu := hu c (by simp)
  go_enter Try.func60, Try.ntmps60
  go_wp2_with fail
  refine (next_any wr qg qb 0 v (c :: t) 240 244 w hS (by simp) hu).mono ?_
  rintro e w1 (⟨x, hx, h1, h2, rfl, rfl⟩ | ⟨hx, rfl, rfl⟩ | ⟨x, hx, h1, rfl, rfl⟩)
  · obtain rfl : x = c := by simpa using hx.symm
    have hS1 := hS.step 1
    have hb1 := But.one' w qg (.int .i64 ((1 : Nat) : Int))
    have HO := Lib.hid (one4 (t := t) h1 h2)
    clear hx
    go_wp2_with fail
    refine (second_any x _).mono ?_
    rintro e w' ⟨rfl, rfl⟩
    obtain ⟨lo, hlo⟩ : ∃ lo : Int, lo = (if x = 224 then 160 else if x = 240 then 144 else 128) := ⟨_, rfl⟩
    obtain ⟨hi, hhi⟩ : ∃ hi : Int, hi = (if x = 237 then 159 else if x = 244 then 143 else 191) := ⟨_, rfl⟩
    have HP : Hid (one (x :: t) = go 3 1 lo hi (x % 8) t) := Lib.hid (by rw [HO.out, hlo, hhi])
    rw [← hlo, ← hhi]
    clear HO hlo hhi
    go_wp2_with fail
    refine (next_any wr qg qb 1 v (x :: t) lo hi _ hS1 (by simp) hu).mono ?_
    rintro e w1 (⟨y, hy, h3, h4, rfl, rfl⟩ | ⟨hy, rfl, rfl⟩ | ⟨y, hy, h3, rfl, rfl⟩)
    · obtain ⟨t', rfl⟩ := hd_of (tl_of hy)
      have hyu := hu y (by simp)
      have hS2 := hS1.step 2
      have hb2 := hb1.setA (i := 0) (.int .i64 ((2 : Nat) : Int))
      clear hy
      go_wp2_with fail
      refine (next_any wr qg qb 2 v (x :: y :: t') 128 191 _ hS2 (by simp) hu).mono ?_
      rintro e w1 (⟨z, hz, h5, h6, rfl, rfl⟩ | ⟨hz, rfl, rfl⟩ | ⟨z, hz, h5, rfl, rfl⟩)
      · obtain ⟨t', rfl⟩ := hd_of (tl_of (tl_of hz))
        have hzu := hu z (by simp)
        have hS3 := hS2.step 3
        have hb3 := hb2.setA (i := 0) (.int .i64 ((3 : Nat) : Int))
        clear hz
        go_wp2_with fail
        refine (next_any wr qg qb 3 v (x :: y :: z :: t') 128 191 _ hS3 (by simp) hu).mono ?_
        rintro e w1 (⟨u, hz, h7, h8, rfl, rfl⟩ | ⟨hz, rfl, rfl⟩ | ⟨u, hz, h7, rfl, rfl⟩)
        · obtain ⟨t', rfl⟩ := hd_of (tl_of (tl_of (tl_of hz)))
          have huu := hu u (by simp)
          clear hz
          go_wp2
          go_ret
          refine seqP (by rw [HP.out, go_hit h3 h4, go_hit h5 h6, go_hit h7 h8, go_zero]) (ret_int ?_) (hS3.step 4) (hb3.setA _)
          rw [and7 hcu, join6 (r := x % 8) (by omega) (by omega) hyu, join6 (r := x % 8 * 64 + y % 64) (by omega) (by omega) hzu, join6 (by omega) (by omega) huu]
        · obtain rfl := none_of (t := t') (by simpa using hz)
          go_wp2
          exact ⟨rfl, seqB (by rw [HP.out, go_hit h3 h4, go_hit h5 h6, go_nil]) hS3 hb3⟩
        · obtain ⟨t', rfl⟩ := hd_of (tl_of (tl_of (tl_of hz)))
          go_wp2
          exact ⟨rfl, seqB (by rw [HP.out, go_hit h3 h4, go_hit h5 h6, go_miss h7]) hS3 hb3⟩
      · obtain rfl := none_of (t := t') (by simpa using hz)
        go_wp2
        exact ⟨rfl, seqB (by rw [HP.out, go_hit h3 h4, go_nil]) hS2 hb2⟩
      · obtain ⟨t', rfl⟩ := hd_of (tl_of (tl_of hz))
        go_wp2
        exact ⟨rfl, seqB (by rw [HP.out, go_hit h3 h4, go_miss h5]) hS2 hb2⟩
    · obtain rfl := none_of (t := t) (by simpa using hy)
      go_wp2
      exact ⟨rfl, seqB (by rw [HP.out, go_nil]) hS1 hb1⟩
    · obtain ⟨t', rfl⟩ := hd_of (tl_of hy)
      go_wp2
      exact ⟨rfl, seqB (by rw [HP.out, go_miss h3]) hS1 hb1⟩
  · simp at hx
  · obtain rfl : x = c := by simpa using hx.symm
    go_wp2
    exact ⟨rfl, seqZ (one0 (by omega) (by omega)) hS⟩

theorem seq_any (wr : World) (qg qb : Nat) (v : Value) (c : Int) (t : List Int) (w : World) (hS : St wr w qg qb 0 v (c :: t)) (hu : ∀ x ∈ c :: t, 0 ≤ x ∧ x < 256) :
    Calls Try.prog 60 #[.int .u8 c, .func (Fn.func 59) #[] #[.pointer (some ⟨qg, 0, none⟩), .pointer (some ⟨qb, 0, none⟩)]] w (SeqPost wr qg qb v (c :: t) w) := by
  by_cases h1 : c < 128
  · exact seq1 wr qg qb v c t w hS hu h1
  by_cases h2 : c < 224
  · exact seq2 wr qg qb v c t w hS hu (by omega) h2
  by_cases h3 : c < 240
  · exact seq3 wr qg qb v c t w hS hu (by omega) h3
  · exact seq4 wr qg qb v c t w hS hu (by omega)
end Go.Proofs.Ytkngppkchaadhaa
