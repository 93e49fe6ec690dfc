/- The quotient of two whole numbers as a word, and how far it is from the true one. -/
import Derived.Test.YtnggfdjohejfgaaScrollMath
set_option linter.unusedVariables false
set_option linter.unusedSimpArgs false
namespace Go.Proofs.Ytnggfdjohejfgaa.Fl
open Ieee

/-- twice the quotient, with a last digit that tells of a rest -/
theorem sticky (D n : Nat) (hn : 0 < n) : (2 * (D / n) + (D % n != 0).toNat) * n ≤ 2 * D + n ∧ 2 * D ≤ (2 * (D / n) + (D % n != 0).toNat) * n + n := by
  have h := Nat.div_add_mod D n
  have hm := Nat.mod_lt D hn
  have e : (2 * (D / n) + (D % n != 0).toNat) * n = 2 * (n * (D / n)) + (D % n != 0).toNat * n := by
    rw [Nat.add_mul, Nat.mul_assoc, Nat.mul_comm (D / n)]
  rw [e]
  generalize n * (D / n) = t at *
  by_cases h0 : D % n = 0
  · simp [h0]; omega
  · have : (D % n != 0) = true := by simpa using h0
    rw [this]; simp; omega

theorem sticky_ge (m n : Nat) (hm : m ≠ 0) (hn : n ≠ 0) : 2 ^ 54 ≤ 2 * ((m <<< (54 + n.log2 - m.log2)) / n) + ((m <<< (54 + n.log2 - m.log2)) % n != 0).toNat := by
  rw [Nat.shiftLeft_eq]
  have h1 := Nat.log2_self_le hm
  have h2 : n < 2 ^ (n.log2 + 1) := Nat.lt_log2_self
  have h3 : 2 ^ (54 + n.log2) ≤ m * 2 ^ (54 + n.log2 - m.log2) := by
    refine Nat.le_trans ?_ (Nat.mul_le_mul_right _ h1)
    rw [← Nat.pow_add]
    exact Nat.pow_le_pow_right (by decide) (by omega)
  have h4 : 2 ^ 53 ≤ (m * 2 ^ (54 + n.log2 - m.log2)) / n := by
    rw [Nat.le_div_iff_mul_le (by omega)]
    refine Nat.le_trans (Nat.mul_le_mul_left _ (Nat.le_of_lt h2)) (Nat.le_trans ?_ h3)
    rw [← Nat.pow_add]
    exact Nat.pow_le_pow_right (by decide) (by omega)
  have : (2 : Nat) ^ 54 = 2 * 2 ^ 53 := by decide
  omega

theorem div_err {k n : Nat} (hk : k ≤ n) (h1 : 1 ≤ n) (hn : n < 2 * B) :
    divW (fint k) (fint n) < INF ∧ val (divW (fint k) (fint n)) * n ≤ k * 2 ^ K + n * 2 ^ (K - 52) ∧ k * 2 ^ K ≤ val (divW (fint k) (fint n)) * n + n * 2 ^ (K - 52) := by
  have hK := K_eq
  have hf0 : fint n ≠ 0 := by
    intro e
    have := val_fint hn
    rw [e, val_zero] at this
    have h2 := Nat.two_pow_pos K
    have := Nat.mul_pos h1 h2
    omega
  obtain ⟨m, p, n', q, ea, eb, hn', ed⟩ := div_some (fint_lt (show k < 2 * B by omega)) (fint_lt hn) hf0
  rw [val_fint (by omega)] at ea
  rw [val_fint hn] at eb
  unfold divW
  rw [ed]
  simp only [Option.getD_some]
  by_cases hm : m = 0
  · subst hm
    have k0 : k = 0 := by
      rw [Nat.zero_mul] at ea
      rcases Nat.mul_eq_zero.1 ea with h | h
      · exact h
      · have := Nat.two_pow_pos K; omega
    subst k0
    have e0 : 2 * (0 <<< (54 + n'.log2 - Nat.log2 0) / n') + (0 <<< (54 + n'.log2 - Nat.log2 0) % n' != 0).toNat = 0 := by simp
    rw [e0, write_number _ _ _ (q + (54 + n'.log2 - Nat.log2 0) + 1) (by omega), Nat.zero_mul]
    have : double.word false (rq (q + (54 + n'.log2 - Nat.log2 0) + 1) 0) = 0 := rfl
    rw [this, val_zero]
    have := INF_pos
    refine ⟨by omega, ?_, ?_⟩ <;> simp
  · have hq54 := sticky_ge m n' hm hn'
    have hst := sticky (m <<< (54 + n'.log2 - m.log2)) n' (by omega)
    generalize hmore : 54 + n'.log2 - m.log2 = more at *
    generalize hQ : 2 * (m <<< more / n') + (m <<< more % n' != 0).toNat = Q at *
    rw [Nat.shiftLeft_eq] at hst
    have ec : (((p : Int) - q - (more : Nat) - 1) + 1074 + ((q + more + 1 : Nat) : Int)).toNat = p + K := by omega
    rw [write_number _ _ _ (q + more + 1) (by omega), ec, word_false]
    generalize hc : q + more + 1 = c at *
    generalize hN : Q * 2 ^ (p + K) = N at *
    -- N n = k 2^(c + K), but for n 2^(p + K)
    have key1 : N * n ≤ k * 2 ^ (c + K) + n * 2 ^ (p + K) := by
      have h := Nat.mul_le_mul_right (2 ^ (p + K) * 2 ^ q) hst.1
      have l1 : Q * n' * (2 ^ (p + K) * 2 ^ q) = N * (n * 2 ^ K) := by
        rw [← hN, eb]; simp only [Nat.mul_assoc, Nat.mul_left_comm, Nat.mul_comm]
      have l2 : (2 * (m * 2 ^ more) + n') * (2 ^ (p + K) * 2 ^ q) = (k * 2 ^ (c + K) + n * 2 ^ (p + K)) * 2 ^ K := by
        have t1 : 2 * (m * 2 ^ more) * (2 ^ (p + K) * 2 ^ q) = m * 2 ^ p * (2 ^ (c + K)) := by
          rw [← hc, Nat.pow_add 2 p K, Nat.pow_add 2 (q + more + 1) K, Nat.pow_succ, Nat.pow_add 2 q more]
          simp only [Nat.mul_assoc, Nat.mul_left_comm, Nat.mul_comm]
        have t2 : n' * (2 ^ (p + K) * 2 ^ q) = n * 2 ^ (p + K) * 2 ^ K := by
          rw [Nat.mul_left_comm, ← eb]; simp only [Nat.mul_assoc, Nat.mul_left_comm, Nat.mul_comm]
        rw [Nat.add_mul, t1, t2, ← ea, Nat.add_mul]
        congr 1
        simp only [Nat.mul_assoc, Nat.mul_left_comm, Nat.mul_comm]
      rw [l1, l2, ← Nat.mul_assoc] at h
      exact Nat.le_of_mul_le_mul_right h (Nat.two_pow_pos K)
    have key2 : k * 2 ^ (c + K) ≤ N * n + n * 2 ^ (p + K) := by
      have h := Nat.mul_le_mul_right (2 ^ (p + K) * 2 ^ q) hst.2
      have l1 : (Q * n' + n') * (2 ^ (p + K) * 2 ^ q) = (N * n + n * 2 ^ (p + K)) * 2 ^ K := by
        have t1 : Q * n' * (2 ^ (p + K) * 2 ^ q) = N * n * 2 ^ K := by
          rw [Nat.mul_assoc N, eb, ← hN]; simp only [Nat.mul_assoc, Nat.mul_left_comm, Nat.mul_comm]
        have t2 : n' * (2 ^ (p + K) * 2 ^ q) = n * 2 ^ (p + K) * 2 ^ K := by
          rw [Nat.mul_left_comm, ← eb]; simp only [Nat.mul_assoc, Nat.mul_left_comm, Nat.mul_comm]
        rw [Nat.add_mul, t1, t2, Nat.add_mul]
      have l2 : 2 * (m * 2 ^ more) * (2 ^ (p + K) * 2 ^ q) = k * 2 ^ (c + K) * 2 ^ K := by
        have t1 : 2 * (m * 2 ^ more) * (2 ^ (p + K) * 2 ^ q) = m * 2 ^ p * (2 ^ (c + K)) := by
          rw [← hc, Nat.pow_add 2 p K, Nat.pow_add 2 (q + more + 1) K, Nat.pow_succ, Nat.pow_add 2 q more]
          simp only [Nat.mul_assoc, Nat.mul_left_comm, Nat.mul_comm]
        rw [t1, ← ea]
        simp only [Nat.mul_assoc, Nat.mul_left_comm, Nat.mul_comm]
      rw [l1, l2] at h
      exact Nat.le_of_mul_le_mul_right h (Nat.two_pow_pos K)
    -- N is at most about 2^(c + K)
    have hNle : N ≤ 2 ^ (c + K) + 2 ^ (p + K) := by
      have : N * n ≤ (2 ^ (c + K) + 2 ^ (p + K)) * n := by
        rw [Nat.add_mul, Nat.mul_comm (2 ^ (p + K)) n]
        refine Nat.le_trans key1 (Nat.add_le_add_right ?_ _)
        rw [Nat.mul_comm (2 ^ (c + K))]
        exact Nat.mul_le_mul_right _ hk
      exact Nat.le_of_mul_le_mul_right this h1
    have hNge : 2 ^ 54 * 2 ^ (p + K) ≤ N := by rw [← hN]; exact Nat.mul_le_mul_right _ hq54
    have hpc : 2 ^ (p + K) * 2 ^ 53 ≤ 2 ^ (c + K) := by
      have : (2 : Nat) ^ 54 = 2 * 2 ^ 53 := by decide
      rw [this] at hNge
      have h53 : (1 : Nat) ≤ 2 ^ 53 := by decide
      have := Nat.mul_le_mul_right (2 ^ (p + K)) h53
      rw [Nat.mul_comm (2 ^ (p + K)) (2 ^ 53)]
      rw [Nat.mul_assoc] at hNge
      generalize 2 ^ 53 * 2 ^ (p + K) = x at *
      omega
    have hpc' : p + 53 ≤ c := by
      rw [← Nat.pow_add] at hpc
      have := (Nat.pow_le_pow_iff_right (by decide : 1 < 2)).1 hpc
      omega
    have hp2 : 2 ^ (p + K) ≤ 2 ^ c * 2 ^ (K - 53) := by
      rw [← Nat.pow_add]; exact Nat.pow_le_pow_right (by decide) (by omega)
    have hlast : lastOf c N ≤ c + (K - 52) := by
      have : N < 2 ^ (c + K + 1) := by
        have h1 : 2 ^ (p + K) < 2 ^ (c + K) := Nat.pow_lt_pow_right (by decide) (by omega)
        rw [Nat.pow_succ]; omega
      have hN0 : N ≠ 0 := by
        have := Nat.mul_pos (show 0 < 2 ^ 54 by decide) (Nat.two_pow_pos (p + K))
        omega
      have := (Nat.log2_lt hN0).2 this
      unfold lastOf; omega
    -- the word is finite: at most one
    have hfin : rq c N < INF := by
      have h1 : N ≤ val (fint 2) * 2 ^ c := by
        rw [val_fint (by rw [B_num]; decide)]
        have h1 : 2 ^ (p + K) ≤ 2 ^ (c + K) := Nat.pow_le_pow_right (by decide) (by omega)
        rw [Nat.mul_assoc, ← Nat.pow_add, Nat.add_comm K c]; omega
      have h2 := rq_mono c h1
      have h3 := fint_lt (n := 2) (by rw [B_num]; decide)
      rw [rq_val c _ (Nat.le_of_lt h3)] at h2
      omega
    have herr := rq_err c N hfin
    have hl2 : 2 ^ lastOf c N ≤ 2 * (2 ^ c * 2 ^ (K - 53)) := by
      rw [← Nat.pow_add, ← Nat.pow_succ']; exact Nat.pow_le_pow_right (by decide) (by omega)
    refine ⟨hfin, ?_, ?_⟩
    · refine Nat.le_of_mul_le_mul_right ?_ (Nat.two_pow_pos c)
      have a1 : val (rq c N) * 2 ^ c ≤ N + 2 ^ c * 2 ^ (K - 53) := by omega
      have a2 := Nat.mul_le_mul_right n a1
      have a3 := Nat.mul_le_mul_left n hp2
      have a4 : n * (2 ^ c * 2 ^ (K - 53)) + n * (2 ^ c * 2 ^ (K - 53)) = n * 2 ^ (K - 52) * 2 ^ c := by
        have : (2 : Nat) ^ (K - 52) = 2 * 2 ^ (K - 53) := by rw [← Nat.pow_succ', show (K - 53).succ = K - 52 by omega]
        rw [this, ← Nat.two_mul]; simp only [Nat.mul_assoc, Nat.mul_left_comm, Nat.mul_comm]
      have a5 : val (rq c N) * n * 2 ^ c = val (rq c N) * 2 ^ c * n := by simp only [Nat.mul_assoc, Nat.mul_left_comm, Nat.mul_comm]
      have a6 : k * 2 ^ K * 2 ^ c = k * 2 ^ (c + K) := by rw [Nat.mul_assoc, ← Nat.pow_add, Nat.add_comm K c]
      rw [Nat.add_mul] at a2
      rw [a5, Nat.add_mul, a6, ← a4]
      have a7 : 2 ^ c * 2 ^ (K - 53) * n = n * (2 ^ c * 2 ^ (K - 53)) := Nat.mul_comm _ _
      omega
    · refine Nat.le_of_mul_le_mul_right ?_ (Nat.two_pow_pos c)
      have a1 : N ≤ val (rq c N) * 2 ^ c + 2 ^ c * 2 ^ (K - 53) := by omega
      have a2 := Nat.mul_le_mul_right n a1
      have a3 := Nat.mul_le_mul_left n hp2
      have a4 : n * (2 ^ c * 2 ^ (K - 53)) + n * (2 ^ c * 2 ^ (K - 53)) = n * 2 ^ (K - 52) * 2 ^ c := by
        have : (2 : Nat) ^ (K - 52) = 2 * 2 ^ (K - 53) := by rw [← Nat.pow_succ', show (K - 53).succ = K - 52 by omega]
        rw [this, ← Nat.two_mul]; simp only [Nat.mul_assoc, Nat.mul_left_comm, Nat.mul_comm]
      have a5 : val (rq c N) * n * 2 ^ c = val (rq c N) * 2 ^ c * n := by simp only [Nat.mul_assoc, Nat.mul_left_comm, Nat.mul_comm]
      have a6 : k * 2 ^ K * 2 ^ c = k * 2 ^ (c + K) := by rw [Nat.mul_assoc, ← Nat.pow_add, Nat.add_comm K c]
      rw [Nat.add_mul] at a2
      rw [Nat.add_mul, a5, a6, ← a4]
      have a7 : 2 ^ c * 2 ^ (K - 53) * n = n * (2 ^ c * 2 ^ (K - 53)) := Nat.mul_comm _ _
      omega
end Go.Proofs.Ytnggfdjohejfgaa.Fl
