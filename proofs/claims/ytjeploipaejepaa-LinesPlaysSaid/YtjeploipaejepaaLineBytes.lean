/- The starts of a text that is put together. -/
import Derived.Test.YtjeploipaejepaaLineSplice
set_option linter.unusedVariables false
set_option linter.unusedSimpArgs false
namespace Go.Proofs.Ytjeploipaejepaa
open Go.RowKit

theorem brk_append (xs ys : List Int) (f : Int) (k : Nat) : brk (xs ++ ys) f (xs.length + k) = brk xs f xs.length ++ brk ys (f + xs.length) k := by
  induction k with
  | zero =>
    simp only [Nat.add_zero, brk, List.append_nil]
    have : ∀ j, j ≤ xs.length → brk (xs ++ ys) f j = brk xs f j := by
      intro j hj
      induction j with
      | zero => rfl
      | succ j ih =>
        have e : (xs ++ ys).getD j 0 = xs.getD j 0 := by simp [List.getD, List.getElem?_append_left (show j < xs.length by omega)]
        simp only [brk, e, ih (by omega)]
    exact this _ (Nat.le_refl _)
  | succ k ih =>
    have e : (xs ++ ys).getD (xs.length + k) 0 = ys.getD k 0 := by simp [List.getD, List.getElem?_append_right (show xs.length ≤ xs.length + k by omega)]
    rw [← Nat.add_assoc]
    simp only [brk, e, ih]
    by_cases h : ys.getD k 0 = 10
    · rw [if_pos h, if_pos h, List.append_assoc]
      have e2 : f + ((xs.length + k : Nat) : Int) + 1 = f + (xs.length : Int) + k + 1 := by omega
      rw [e2]
    · rw [if_neg h, if_neg h]
theorem brk_all (xs ys : List Int) (f : Int) : brk (xs ++ ys) f (xs ++ ys).length = brk xs f xs.length ++ brk ys (f + xs.length) ys.length := by
  rw [List.length_append]; exact brk_append xs ys f ys.length
theorem brk_shift (ys : List Int) (f s : Int) (k : Nat) : (brk ys f k).map (fun z : Int => z + s) = brk ys (f + s) k := by
  induction k with
  | zero => rfl
  | succ k ih =>
    simp only [brk]
    by_cases h : ys.getD k 0 = 10
    · rw [if_pos h, if_pos h, List.map_append, ih]
      have e2 : f + (k : Int) + 1 + s = f + s + k + 1 := by omega
      simp [e2]
    · rw [if_neg h, if_neg h, ih]
/-- where the numbers up to a bound end -/
theorem thr_append {A B : List Int} {a : Int} {c : Nat} (hA : ∀ z ∈ A, z ≤ a) (hB : ∀ z ∈ B, a < z) (hc : c ≤ (A ++ B).length) (h : ∀ k, k < (A ++ B).length → ((A ++ B).getD k 0 ≤ a ↔ k < c)) : c = A.length := by
  rcases Nat.lt_trichotomy c A.length with h1 | h1 | h1
  · have hl : c < (A ++ B).length := by simp; omega
    have e : (A ++ B).getD c 0 = A.getD c 0 := by simp [List.getD, List.getElem?_append_left h1]
    have := hA _ (getD_mem h1)
    rw [← e] at this
    have := (h c hl).1 this
    omega
  · exact h1
  · simp only [List.length_append] at hc
    have hl : A.length < (A ++ B).length := by simp; omega
    have e : (A ++ B).getD A.length 0 = B.getD 0 0 := by simp [List.getD, List.getElem?_append_right (Nat.le_refl A.length)]
    have := (h A.length hl).2 h1
    rw [e] at this
    have := hB _ (getD_mem (show 0 < B.length by omega))
    omega
theorem brk_split (bs : List Int) (a : Nat) (ha : a ≤ bs.length) : brk bs 0 bs.length = brk (bs.take a) 0 a ++ brk (bs.drop a) a (bs.length - a) := by
  have h := brk_all (bs.take a) (bs.drop a) 0
  rw [List.take_append_drop] at h
  rw [h]
  have e : (bs.take a).length = a := by simp; omega
  rw [e, List.length_drop]
  simp
theorem brk_front_le (xs : List Int) (a : Nat) : ∀ z ∈ brk xs 0 a, z ≤ (a : Int) := by
  intro z hz
  obtain ⟨j, h1, _, rfl⟩ := (brk_mem xs 0 a z).1 hz
  omega
theorem brk_back_gt (xs : List Int) (a k : Nat) : ∀ z ∈ brk xs a k, (a : Int) < z := by
  intro z hz
  obtain ⟨j, h1, _, rfl⟩ := (brk_mem xs a k z).1 hz
  omega
/-- what Splice makes of the breaks is the breaks of the spliced text -/
theorem brk_splice (bs ins : List Int) (a d c1 c2 : Nat) (had : a + d ≤ bs.length)
    (h1 : c1 ≤ (brk bs 0 bs.length).length) (h2 : ∀ k, k < (brk bs 0 bs.length).length → ((brk bs 0 bs.length).getD k 0 ≤ a ↔ k < c1))
    (h3 : c2 ≤ (brk bs 0 bs.length).length) (h4 : ∀ k, k < (brk bs 0 bs.length).length → ((brk bs 0 bs.length).getD k 0 ≤ (a : Int) + d ↔ k < c2)) :
    (brk bs 0 bs.length).take c1 ++ brk ins a ins.length ++ ((brk bs 0 bs.length).drop c2).map (fun z : Int => z - d + ins.length) =
      brk (bs.take a ++ ins ++ bs.drop (a + d)) 0 (bs.take a ++ ins ++ bs.drop (a + d)).length := by
  have e1 : c1 = (brk (bs.take a) 0 a).length := by
    have hs := brk_split bs a (by omega)
    rw [hs] at h1 h2
    exact thr_append (brk_front_le _ _) (brk_back_gt _ _ _) h1 h2
  have e2 : c2 = (brk (bs.take (a + d)) 0 (a + d)).length := by
    have hs := brk_split bs (a + d) had
    rw [hs] at h3 h4
    have hc : ((a + d : Nat) : Int) = (a : Int) + d := by omega
    rw [← hc] at h4
    exact thr_append (brk_front_le _ _) (brk_back_gt _ _ _) h3 h4
  have f1 : (brk bs 0 bs.length).take c1 = brk (bs.take a) 0 a := by rw [brk_split bs a (by omega), e1]; simp
  have f2 : (brk bs 0 bs.length).drop c2 = brk (bs.drop (a + d)) ((a + d : Nat) : Int) (bs.length - (a + d)) := by rw [brk_split bs (a + d) had, e2]; simp
  have la : (bs.take a).length = a := by simp; omega
  have ld : (bs.drop (a + d)).length = bs.length - (a + d) := by simp
  rw [f1, f2, brk_all (bs.take a ++ ins), brk_all (bs.take a) ins, la, ld]
  have fm : (fun z : Int => z - d + ins.length) = (fun z : Int => z + ((ins.length : Int) - d)) := by funext z; omega
  rw [fm, brk_shift]
  have e3 : ((a + d : Nat) : Int) + ((ins.length : Int) - d) = 0 + ((bs.take a ++ ins).length : Int) := by rw [List.length_append, la]; omega
  rw [e3]
  simp
theorem brk_mono (bs : List Int) (f : Int) (n : Nat) : ∀ i j, i < j → j < (brk bs f n).length → (brk bs f n).getD i 0 < (brk bs f n).getD j 0 := by
  intro i j hij hj
  have := List.pairwise_iff_getElem.1 (brk_sorted bs f n) i j (by omega) hj hij
  simpa [List.getD, hj, show i < (brk bs f n).length by omega] using this
theorem brk_bounds (bs : List Int) (f : Int) (n : Nat) : ∀ z ∈ brk bs f n, f < z ∧ z ≤ f + n := by
  intro z hz
  obtain ⟨j, h1, _, rfl⟩ := (brk_mem bs f n z).1 hz
  omega

/-- block p is an Index of the text bs -/
def IdxB (w : World) (base p : Nat) (bs : List Int) : Prop := Idx w base p bs.length (brk bs 0 bs.length)

theorem newB_any (w : World) : Calls Try.prog 21 #[] w fun e w' => e = .returned (.pointer (some ⟨w.heap.size, 0, none⟩)) ∧ IdxB w' w.heap.size w.heap.size [] ∧ Below w.heap.size w w' := new_any w

theorem feedB_any (base p : Nat) (bs ins : List Int) (v : Value) (w : World) (hI : IdxB w base p bs) (hn : bs.length ≤ 100000) (hb : ins.length ≤ 100000)
    (hr : Row w v ins.length (ins.map (Value.int .u8))) (hu : ∀ x ∈ ins, 0 ≤ x ∧ x < 256) :
    Calls Try.prog 22 #[.pointer (some ⟨p, 0, none⟩), v] w fun e w' => e = .returned (.tuple #[]) ∧ IdxB w' base p (bs ++ ins) ∧ Below base w w' := by
  have hle := brk_le bs 0 bs.length
  refine (feed_any base p bs.length (brk bs 0 bs.length) ins v w hI (by omega) (by omega) hb hr hu).mono ?_
  rintro e w' ⟨rfl, h1, h2⟩
  refine ⟨rfl, ?_, h2⟩
  unfold IdxB
  rw [brk_all, List.length_append]
  simpa using h1

theorem spliceB_any (base p a d : Nat) (bs ins : List Int) (v e0 : Value) (w : World) (hI : IdxB w base p bs) (hn : bs.length ≤ 100000) (hb : ins.length ≤ 100000)
    (hr : Row w v ins.length (ins.map (Value.int .u8))) (hu : ∀ x ∈ ins, 0 ≤ x ∧ x < 256) (had : a + d ≤ bs.length) :
    Calls Try.prog 23 #[.pointer (some ⟨p, 0, none⟩), .int .i64 a, .int .i64 d, v, e0] w fun e w' => e = .returned (.int .i64 0) ∧
      IdxB w' base p (bs.take a ++ ins ++ bs.drop (a + d)) ∧ Below base w w' ∧ w.grownBy w' (some p) := by
  have hle := brk_le bs 0 bs.length
  refine (splice_any base p bs.length a d (brk bs 0 bs.length) ins v e0 w hI (by omega) (by omega) (fun z hz => by have := brk_bounds bs 0 _ z hz; omega) (brk_mono bs 0 _) hb hr hu had).mono ?_
  rintro e w' ⟨rfl, c1, c2, h1, h2, h3, h4, h5, h6⟩
  refine ⟨rfl, ?_, h6⟩
  unfold IdxB
  rw [brk_splice bs ins a d c1 c2 had h1 h2 h3 h4] at h5
  have e : (bs.take a ++ ins ++ bs.drop (a + d)).length = bs.length + ins.length - d := by simp; omega
  rw [e] at h5 ⊢
  exact h5

theorem startsB_any (base p : Nat) (bs : List Int) (w : World) (hI : IdxB w base p bs) (hn : bs.length ≤ 100000) :
    Calls Try.prog 24 #[.pointer (some ⟨p, 0, none⟩)] w fun e w' => ∃ u, e = .returned u ∧ w'.ownsRow w.heap.size 3 1 u (sts bs).length ((sts bs).map (Value.int .i64)) ∧ Below w.heap.size w w' := by
  have hle := brk_le bs 0 bs.length
  exact idxStarts_any base p bs.length (brk bs 0 bs.length) w hI (by omega)
end Go.Proofs.Ytjeploipaejepaa
