/- word: the walk of WordAsks. -/
import Derived.Test.YtkngppkchaadhaaEref4
import Derived.Test.YtkngppkchaadhaaWordsRef
import Derived.Test.YtkngppkchaadhaaWordToldW
set_option linter.unusedVariables false
set_option linter.unusedSimpArgs false
namespace Go.Proofs.Ytkngppkchaadhaa
open Go.RowKit De Wd

theorem wcs_get (s : ByteArray) (W : List (Nat × Wt)) : ∀ (k i : Nat) (p : Nat × Wt), W[k]? = some p → i < 3 → (wcs s W)[k * 3 + i]? = (wval s p.1 p.2)[i]? := by
  induction W with
  | nil => intro k i p h; simp at h
  | cons q W ih =>
    intro k i p h hi
    have e : wcs s (q :: W) = wval s q.1 q.2 ++ wcs s W := by simp [wcs]
    have hl : (wval s q.1 q.2).length = 3 := by simp [wval]
    rw [e]
    cases k with
    | zero =>
      simp at h; subst h
      rw [List.getElem?_append_left (by omega)]; simp
    | succ k =>
      rw [List.getElem?_append_right (by omega)]
      have := ih k i p (by simpa using h) hi
      rw [← this]; congr 1; omega

theorem ba_eq (x : ByteArray) : (x == x) = true := by
  cases x
  rename_i d
  show (d == d) = true
  simp
theorem ba_ne (x : ByteArray) : (x != x) = false := by
  have := ba_eq x
  simp [bne, this]
set_option maxHeartbeats 8000000 in
set_option maxRecDepth 1000000 in
/-- the words of two rows that hold the same are the same -/
theorem words_same (s : ByteArray) (W : List (Nat × Wt)) (va vb : Value) (w : World) (ha : Row w va W.length (wcs s W)) (hb : Row w vb W.length (wcs s W)) (hn : W.length ≤ 100000) :
    Calls Try.prog 12 #[va, vb] w fun e w' => e = .returned (.bool true) ∧ Below w.heap.size w w' := by
  have HA := Lib.hid ha
  have HB := Lib.hid hb
  obtain ⟨oa, ca, rfl, _⟩ := ha
  obtain ⟨ob, cb, rfl, _⟩ := hb
  have hl : ((W.length : Int) != (W.length : Int)) = false := by simp
  go_enter Try.func12, Try.ntmps12
  go_wp2_with fail
  go_loopg [5] W.length (fun g i wx => ∃ k : Nat, k + g = W.length ∧ i = .int .i64 k ∧ Below w.heap.size w wx)
  case atStart => exact ⟨0, by omega, rfl, Below.refl _ _⟩
  case round =>
    obtain ⟨k, hkg, rfl, hbel⟩ := hrel
    obtain ⟨wo, rfl⟩ : ∃ wo : World, wo = wr := ⟨_, rfl⟩
    cases gk with
    | zero =>
      obtain rfl : k = W.length := by omega
      have hd : decide ((W.length : Int) < (W.length : Int)) = false := by simp
      go_wp2
      go_ret
      exact ⟨rfl, hbel⟩
    | succ g =>
      have hk : k < W.length := by omega
      have hd : decide ((k : Int) < (W.length : Int)) = true := by simp; omega
      have hk1 : (0 : Int) ≤ (k : Int) := by omega
      have hk2 : (k : Int) < (W.length : Int) := by omega
      have hk9 : (k : Int) ≤ 100000 := by omega
      obtain ⟨p, hp⟩ : ∃ p, W[k]? = some p := ⟨W[k], List.getElem?_eq_getElem hk⟩
      obtain ⟨ga, fa, cap, e, hga, hca⟩ := (HA.out.below hbel).cells (by omega)
      simp only [Value.slice.injEq, true_and] at e
      obtain ⟨rfl, rfl⟩ := e
      obtain ⟨gb, fb', capb, e, hgb, hcb⟩ := (HB.out.below hbel).cells (by omega)
      simp only [Value.slice.injEq, true_and] at e
      obtain ⟨rfl, rfl⟩ := e
      have q := fun i hi => wcs_get s W k i _ hp hi
      obtain ⟨a, x⟩ := p
      obtain ⟨str, hstr⟩ : ∃ str, str = s.extract (a + x.o) (a + x.o + x.n) := ⟨_, rfl⟩
      obtain ⟨z, hz⟩ : ∃ z : Int, z = (if x.k = 0 then 0 else (a : Int)) := ⟨_, rfl⟩
      obtain ⟨kk, hkk⟩ : ∃ kk : Int, kk = x.k := ⟨_, rfl⟩
      have a0 : wo.cell? ⟨ga, fa + k * 3, none⟩ = some (.int .i64 kk) := by have := hca (k * 3 + 0) (.int .i64 kk) (by rw [q 0 (by omega), hkk]; rfl); simpa [Nat.add_assoc] using this
      have a1 : wo.cell? ⟨ga, fa + k * 3 + 1, none⟩ = some (.string str) := by have := hca (k * 3 + 1) (.string str) (by rw [q 1 (by omega), hstr]; rfl); simpa [Nat.add_assoc] using this
      have a2 : wo.cell? ⟨ga, fa + k * 3 + 2, none⟩ = some (.int .i64 z) := by have := hca (k * 3 + 2) (.int .i64 z) (by rw [q 2 (by omega), hz]; rfl); simpa [Nat.add_assoc] using this
      have b0 : wo.cell? ⟨gb, fb' + k * 3, none⟩ = some (.int .i64 kk) := by have := hcb (k * 3 + 0) (.int .i64 kk) (by rw [q 0 (by omega), hkk]; rfl); simpa [Nat.add_assoc] using this
      have b1 : wo.cell? ⟨gb, fb' + k * 3 + 1, none⟩ = some (.string str) := by have := hcb (k * 3 + 1) (.string str) (by rw [q 1 (by omega), hstr]; rfl); simpa [Nat.add_assoc] using this
      have b2 : wo.cell? ⟨gb, fb' + k * 3 + 2, none⟩ = some (.int .i64 z) := by have := hcb (k * 3 + 2) (.int .i64 z) (by rw [q 2 (by omega), hz]; rfl); simpa [Nat.add_assoc] using this
      have hs1 := ba_ne str
      have hs2 : (kk != kk) = false := by simp
      have hs3 : (z != z) = false := by simp
      have HBL := Lib.hid hbel
      clear q hp hca hcb hstr hz hkk hbel hga hgb
      go_wp2_with fail
      go_quiet (fail)
      go_wp2
      go_roundg g
      case measure => omega
      case rel => exact ⟨k + 1, by omega, by go_num, below_drewN HBL.out _⟩
/-- two rows that hold the same set are the same -/
theorem rs_len {l : List Int} {W : List (Nat × Wt)} (h : rs l = .ok W) : W.length ≤ l.length := by
  unfold rs at h
  split at h
  · cases h
  · cases hs : (sc 0 l).2 with
    | some b => rw [hs] at h; cases h
    | none =>
      rw [hs] at h
      simp only at h
      split at h
      · cases h
      · cases h; exact sc_len 0 l
theorem cls_len {L : Its} {n : Nat} {S : List Ru.Pc} (h : clsF L n = .ok S) : True := trivial
theorem Ru.cpl_len : ∀ (f : Int) (P : List Ru.Pc), (Ru.cpl f P).length ≤ P.length + 1 := by
  intro f P
  induction P generalizing f with
  | nil => unfold Ru.cpl; split <;> simp
  | cons p P ih =>
    unfold Ru.cpl
    have := ih p.2
    split <;> simp <;> omega
theorem elsF_len {L : Its} : ∀ (f : Nat) (acc : List Ru.Pc) (k : Nat) (R : List Ru.Pc), Sc L → acc.length ≤ k → k ≤ L.length → elsF L f acc k = .ok R → R.length ≤ L.length := by
  intro f
  induction f with
  | zero => intro acc k R _ _ _ h; simp [elsF] at h
  | succ f ih =>
    intro acc k R hs h1 h2 h
    simp only [elsF] at h
    split at h
    · cases h; omega
    · split at h
      · cases h
      · rename_i q k' he
        have := elF_ok hs he
        exact ih _ _ _ hs (by simp; omega) this.2.2.1 h
theorem clsF_len {c : ByteArray} {n : Nat} {S : List Ru.Pc} (h : clsF (all 0 (sb c)) n = .ok S) : S.length ≤ c.size + 1 := by
  have hsc := sc_all _ 0 (sb c) (Nat.le_refl _) (sb_u8 c)
  have hl := all_len 0 (sb c)
  rw [sb_len] at hl
  unfold clsF at h
  split at h
  · cases h
  · rename_i acc he
    have hacc : acc.length ≤ c.size := by
      refine Nat.le_trans (elsF_len _ _ _ _ hsc (Nat.zero_le _) ?_ he) hl
      split
      · rename_i h94
        exact pk_lt (L := all 0 (sb c)) (k := 0) (by omega)
      · exact Nat.zero_le _
    have h1 := Ru.pcs_le acc
    have hn : (Ru.nrm acc).length ≤ acc.length := by rw [Ru.nrm_len]; exact h1
    have ht : (Ru.nt acc).length ≤ acc.length + 1 := by
      rw [Ru.nt_len]
      have := Ru.cpl_len 0 (Ru.pcs acc)
      omega
    by_cases h94 : pk (all 0 (sb c)) 0 = 94
    · simp only [if_pos h94] at h
      by_cases hz : Ru.nt acc = []
      · rw [if_pos hz] at h; cases h
      · rw [if_neg hz] at h; cases h; omega
    · simp only [if_neg h94] at h
      by_cases hz : Ru.nrm acc = []
      · rw [if_pos hz] at h; cases h
      · rw [if_neg hz] at h; cases h; omega

set_option maxHeartbeats 8000000 in
set_option maxRecDepth 1000000 in
theorem asks_oo (s c : ByteArray) (W : List (Nat × Wt)) (S : List Ru.Pc) (w : World) (hs : s.size ≤ 400) (hc : c.size ≤ 200) (hw : rs (sb s) = .ok W) (hcl : clsF (all 0 (sb c)) c.size = .ok S) :
    Calls Try.prog 3 #[.string s, .string c] w fun e w' => e = .returned (.bool true) ∧ Below w.heap.size w w' := by
  have hd1 : decide ((400 : Int) < (s.size : Int)) = false := by simp; omega
  have hd2 : decide ((200 : Int) < (c.size : Int)) = false := by simp; omega
  have hsc := sc_all _ 0 (sb c) (Nat.le_refl _) (sb_u8 c)
  have HW := Lib.hid hw
  have HC := Lib.hid hcl
  have HSC := Lib.hid hsc
  have hwl := rs_len hw
  rw [sb_len] at hwl
  have hsl := clsF_len hcl
  clear hw hcl hsc
  go_enter Try.func3, Try.ntmps3
  go_wp2_with fail
  refine (wordAll_any s _ (by omega)).mono ?_
  intro e w1 hp1
  unfold AllPost at hp1
  rw [HW.out] at hp1
  obtain ⟨u1, rfl, hown1, hb1⟩ := hp1
  obtain ⟨o1, c1, rfl⟩ := owns_slice hown1
  have hB1 := hb1
  go_wp2_with fail
  refine (refWords_any s _ (by omega)).mono ?_
  intro e w2 hp2
  unfold WordsPost at hp2
  rw [HW.out] at hp2
  obtain ⟨u2, rfl, hown2, hb2⟩ := hp2
  obtain ⟨o2, c2, rfl⟩ := owns_slice hown2
  have hB2 := bel_then hB1 hb2
  go_wp2_with fail
  refine (classF_any c _ (by omega) HSC.out).mono ?_
  intro e w3 hp3
  unfold ClsPostF at hp3
  rw [HC.out] at hp3
  obtain ⟨u3, rfl, hown3, hb3⟩ := hp3
  obtain ⟨o3, c3, rfl⟩ := owns_slice hown3
  have hB3 := bel_then hB2 hb3
  go_wp2_with fail
  refine (rClass_any c _ (by omega)).mono ?_
  intro e w4 hp4
  unfold ClsPostF at hp4
  rw [HC.out] at hp4
  obtain ⟨u4, rfl, hown4, hb4⟩ := hp4
  obtain ⟨o4, c4, rfl⟩ := owns_slice hown4
  have hB4 := bel_then hB3 hb4
  go_wp2_with fail
  refine (told_any _).mono ?_
  rintro e w5 ⟨rfl, hb5⟩
  have hB5 := bel_then hB4 hb5
  have r1 := ((((Row.owned hown1).below hb2).below hb3).below hb4).below hb5
  have r2 := (((Row.owned hown2).below hb3).below hb4).below hb5
  have r3 := ((Row.owned hown3).below hb4).below hb5
  have r4 := (Row.owned hown4).below hb5
  have HR := Lib.hid (And.intro r1 (And.intro r2 (And.intro r3 (And.intro r4 hB5))))
  clear r1 r2 r3 r4 hB5 hb1 hb2 hb3 hb4 hb5 hB1 hB2 hB3 hB4 hown1 hown2 hown3 hown4
  go_wp2_with fail
  refine (words_same s W _ _ _ HR.out.1 HR.out.2.1 (by first | omega | decide)).mono ?_
  rintro e w6 ⟨rfl, hb6⟩
  go_wp2_with fail
  refine (refSame_any S S _ _ _ (HR.out.2.2.1.below hb6) (HR.out.2.2.2.1.below hb6) (by first | omega | decide) (by first | omega | decide)).mono ?_
  rintro e w7 ⟨rfl, hb7⟩
  go_wp2
  go_ret
  exact ⟨by simp, bel_then (bel_then HR.out.2.2.2.2 hb6) hb7⟩

set_option maxHeartbeats 8000000 in
set_option maxRecDepth 1000000 in
theorem asks_ob (s c : ByteArray) (W : List (Nat × Wt)) (jc : Nat) (w : World) (hs : s.size ≤ 400) (hc : c.size ≤ 200) (hw : rs (sb s) = .ok W) (hcl : clsF (all 0 (sb c)) c.size = .bad jc) :
    Calls Try.prog 3 #[.string s, .string c] w fun e w' => e = .returned (.bool true) ∧ Below w.heap.size w w' := by
  have hd1 : decide ((400 : Int) < (s.size : Int)) = false := by simp; omega
  have hd2 : decide ((200 : Int) < (c.size : Int)) = false := by simp; omega
  have hsc := sc_all _ 0 (sb c) (Nat.le_refl _) (sb_u8 c)
  have HW := Lib.hid hw
  have HC := Lib.hid hcl
  have HSC := Lib.hid hsc
  have hwl := rs_len hw
  rw [sb_len] at hwl
  clear hw hcl hsc
  go_enter Try.func3, Try.ntmps3
  go_wp2_with fail
  refine (wordAll_any s _ (by omega)).mono ?_
  intro e w1 hp1
  unfold AllPost at hp1
  rw [HW.out] at hp1
  obtain ⟨u1, rfl, hown1, hb1⟩ := hp1
  obtain ⟨o1, c1, rfl⟩ := owns_slice hown1
  have hB1 := hb1
  go_wp2_with fail
  refine (refWords_any s _ (by omega)).mono ?_
  intro e w2 hp2
  unfold WordsPost at hp2
  rw [HW.out] at hp2
  obtain ⟨u2, rfl, hown2, hb2⟩ := hp2
  obtain ⟨o2, c2, rfl⟩ := owns_slice hown2
  have hB2 := bel_then hB1 hb2
  go_wp2_with fail
  refine (classF_any c _ (by omega) HSC.out).mono ?_
  intro e w3 hp3
  unfold ClsPostF at hp3
  rw [HC.out] at hp3
  obtain ⟨rfl, hb3⟩ := hp3
  have hB3 := bel_then hB2 hb3
  go_wp2_with fail
  refine (rClass_any c _ (by omega)).mono ?_
  intro e w4 hp4
  unfold ClsPostF at hp4
  rw [HC.out] at hp4
  obtain ⟨rfl, hb4⟩ := hp4
  have hB4 := bel_then hB3 hb4
  go_wp2_with fail
  refine (told_any _).mono ?_
  rintro e w5 ⟨rfl, hb5⟩
  have hB5 := bel_then hB4 hb5
  have r1 := ((((Row.owned hown1).below hb2).below hb3).below hb4).below hb5
  have r2 := (((Row.owned hown2).below hb3).below hb4).below hb5
  have r3 : Row w5 (.slice none 0 0) ([] : List Ru.Pc).length (flatK .i32 []) := ⟨none, 0, rfl, Nat.le_refl _, Nat.zero_le _, .inl ⟨rfl, fun _ => rfl⟩⟩
  have r4 := r3
  have HR := Lib.hid (And.intro r1 (And.intro r2 (And.intro r3 (And.intro r4 hB5))))
  clear r1 r2 r3 r4 hB5 hb1 hb2 hb3 hb4 hb5 hB1 hB2 hB3 hB4 hown1 hown2
  have tc2 : ((jc : Int) == (jc : Int)) = true := by simp
  go_wp2_with fail
  refine (words_same s W _ _ _ HR.out.1 HR.out.2.1 (by first | omega | decide)).mono ?_
  rintro e w6 ⟨rfl, hb6⟩
  go_wp2_with fail
  refine (refSame_any [] [] _ _ _ (HR.out.2.2.1.below hb6) (HR.out.2.2.2.1.below hb6) (by first | omega | decide) (by first | omega | decide)).mono ?_
  rintro e w7 ⟨rfl, hb7⟩
  go_wp2
  go_ret
  exact ⟨by simp, bel_then (bel_then HR.out.2.2.2.2 hb6) hb7⟩

set_option maxHeartbeats 8000000 in
set_option maxRecDepth 1000000 in
theorem asks_bo (s c : ByteArray) (cw : Int) (aw : Nat) (S : List Ru.Pc) (w : World) (hs : s.size ≤ 400) (hc : c.size ≤ 200) (hw : rs (sb s) = .bad cw aw) (hcl : clsF (all 0 (sb c)) c.size = .ok S) :
    Calls Try.prog 3 #[.string s, .string c] w fun e w' => e = .returned (.bool true) ∧ Below w.heap.size w w' := by
  have hd1 : decide ((400 : Int) < (s.size : Int)) = false := by simp; omega
  have hd2 : decide ((200 : Int) < (c.size : Int)) = false := by simp; omega
  have hsc := sc_all _ 0 (sb c) (Nat.le_refl _) (sb_u8 c)
  have HW := Lib.hid hw
  have HC := Lib.hid hcl
  have HSC := Lib.hid hsc
  have hsl := clsF_len hcl
  clear hw hcl hsc
  go_enter Try.func3, Try.ntmps3
  go_wp2_with fail
  refine (wordAll_any s _ (by omega)).mono ?_
  intro e w1 hp1
  unfold AllPost at hp1
  rw [HW.out] at hp1
  obtain ⟨rfl, hb1⟩ := hp1
  have hB1 := hb1
  go_wp2_with fail
  refine (refWords_any s _ (by omega)).mono ?_
  intro e w2 hp2
  unfold WordsPost at hp2
  rw [HW.out] at hp2
  obtain ⟨rfl, hb2⟩ := hp2
  have hB2 := bel_then hB1 hb2
  go_wp2_with fail
  refine (classF_any c _ (by omega) HSC.out).mono ?_
  intro e w3 hp3
  unfold ClsPostF at hp3
  rw [HC.out] at hp3
  obtain ⟨u3, rfl, hown3, hb3⟩ := hp3
  obtain ⟨o3, c3, rfl⟩ := owns_slice hown3
  have hB3 := bel_then hB2 hb3
  go_wp2_with fail
  refine (rClass_any c _ (by omega)).mono ?_
  intro e w4 hp4
  unfold ClsPostF at hp4
  rw [HC.out] at hp4
  obtain ⟨u4, rfl, hown4, hb4⟩ := hp4
  obtain ⟨o4, c4, rfl⟩ := owns_slice hown4
  have hB4 := bel_then hB3 hb4
  go_wp2_with fail
  refine (told_any _).mono ?_
  rintro e w5 ⟨rfl, hb5⟩
  have hB5 := bel_then hB4 hb5
  have r1 : Row w5 (.slice none 0 0) ([] : List (Nat × Wt)).length (wcs s []) := ⟨none, 0, rfl, Nat.le_refl _, Nat.zero_le _, .inl ⟨rfl, fun _ => rfl⟩⟩
  have r2 := r1
  have r3 := ((Row.owned hown3).below hb4).below hb5
  have r4 := (Row.owned hown4).below hb5
  have HR := Lib.hid (And.intro r1 (And.intro r2 (And.intro r3 (And.intro r4 hB5))))
  clear r1 r2 r3 r4 hB5 hb1 hb2 hb3 hb4 hb5 hB1 hB2 hB3 hB4 hown3 hown4
  have tw1 : (cw == cw) = true := by simp
  have tw2 : ((aw : Int) == (aw : Int)) = true := by simp
  go_wp2_with fail
  refine (words_same s [] _ _ _ HR.out.1 HR.out.2.1 (by first | omega | decide)).mono ?_
  rintro e w6 ⟨rfl, hb6⟩
  go_wp2_with fail
  refine (refSame_any S S _ _ _ (HR.out.2.2.1.below hb6) (HR.out.2.2.2.1.below hb6) (by first | omega | decide) (by first | omega | decide)).mono ?_
  rintro e w7 ⟨rfl, hb7⟩
  go_wp2
  go_ret
  exact ⟨by simp, bel_then (bel_then HR.out.2.2.2.2 hb6) hb7⟩

set_option maxHeartbeats 8000000 in
set_option maxRecDepth 1000000 in
theorem asks_bb (s c : ByteArray) (cw : Int) (aw : Nat) (jc : Nat) (w : World) (hs : s.size ≤ 400) (hc : c.size ≤ 200) (hw : rs (sb s) = .bad cw aw) (hcl : clsF (all 0 (sb c)) c.size = .bad jc) :
    Calls Try.prog 3 #[.string s, .string c] w fun e w' => e = .returned (.bool true) ∧ Below w.heap.size w w' := by
  have hd1 : decide ((400 : Int) < (s.size : Int)) = false := by simp; omega
  have hd2 : decide ((200 : Int) < (c.size : Int)) = false := by simp; omega
  have hsc := sc_all _ 0 (sb c) (Nat.le_refl _) (sb_u8 c)
  have HW := Lib.hid hw
  have HC := Lib.hid hcl
  have HSC := Lib.hid hsc
  clear hw hcl hsc
  go_enter Try.func3, Try.ntmps3
  go_wp2_with fail
  refine (wordAll_any s _ (by omega)).mono ?_
  intro e w1 hp1
  unfold AllPost at hp1
  rw [HW.out] at hp1
  obtain ⟨rfl, hb1⟩ := hp1
  have hB1 := hb1
  go_wp2_with fail
  refine (refWords_any s _ (by omega)).mono ?_
  intro e w2 hp2
  unfold WordsPost at hp2
  rw [HW.out] at hp2
  obtain ⟨rfl, hb2⟩ := hp2
  have hB2 := bel_then hB1 hb2
  go_wp2_with fail
  refine (classF_any c _ (by omega) HSC.out).mono ?_
  intro e w3 hp3
  unfold ClsPostF at hp3
  rw [HC.out] at hp3
  obtain ⟨rfl, hb3⟩ := hp3
  have hB3 := bel_then hB2 hb3
  go_wp2_with fail
  refine (rClass_any c _ (by omega)).mono ?_
  intro e w4 hp4
  unfold ClsPostF at hp4
  rw [HC.out] at hp4
  obtain ⟨rfl, hb4⟩ := hp4
  have hB4 := bel_then hB3 hb4
  go_wp2_with fail
  refine (told_any _).mono ?_
  rintro e w5 ⟨rfl, hb5⟩
  have hB5 := bel_then hB4 hb5
  have r1 : Row w5 (.slice none 0 0) ([] : List (Nat × Wt)).length (wcs s []) := ⟨none, 0, rfl, Nat.le_refl _, Nat.zero_le _, .inl ⟨rfl, fun _ => rfl⟩⟩
  have r2 := r1
  have r3 : Row w5 (.slice none 0 0) ([] : List Ru.Pc).length (flatK .i32 []) := ⟨none, 0, rfl, Nat.le_refl _, Nat.zero_le _, .inl ⟨rfl, fun _ => rfl⟩⟩
  have r4 := r3
  have HR := Lib.hid (And.intro r1 (And.intro r2 (And.intro r3 (And.intro r4 hB5))))
  clear r1 r2 r3 r4 hB5 hb1 hb2 hb3 hb4 hb5 hB1 hB2 hB3 hB4
  have tw1 : (cw == cw) = true := by simp
  have tw2 : ((aw : Int) == (aw : Int)) = true := by simp
  have tc2 : ((jc : Int) == (jc : Int)) = true := by simp
  go_wp2_with fail
  refine (words_same s [] _ _ _ HR.out.1 HR.out.2.1 (by first | omega | decide)).mono ?_
  rintro e w6 ⟨rfl, hb6⟩
  go_wp2_with fail
  refine (refSame_any [] [] _ _ _ (HR.out.2.2.1.below hb6) (HR.out.2.2.2.1.below hb6) (by first | omega | decide) (by first | omega | decide)).mono ?_
  rintro e w7 ⟨rfl, hb7⟩
  go_wp2
  go_ret
  exact ⟨by simp, bel_then (bel_then HR.out.2.2.2.2 hb6) hb7⟩

set_option maxHeartbeats 4000000 in
theorem wordAsks_walk (s c : ByteArray) (w : World) (hz : s.size ≤ maxLen) (hzc : c.size ≤ maxLen) :
    Calls Try.prog 3 #[.string s, .string c] w fun e w' => e = .returned (.bool true) ∧ Below w.heap.size w w' := by
  unfold maxLen at hz hzc
  by_cases hs : s.size ≤ 400
  · by_cases hc : c.size ≤ 200
    · cases hw : rs (sb s) with
      | ok W =>
        cases hcl : clsF (all 0 (sb c)) c.size with
        | ok S => exact asks_oo s c W S w hs hc hw hcl
        | bad j => exact asks_ob s c W j w hs hc hw hcl
      | bad cw aw =>
        cases hcl : clsF (all 0 (sb c)) c.size with
        | ok S => exact asks_bo s c cw aw S w hs hc hw hcl
        | bad j => exact asks_bb s c cw aw j w hs hc hw hcl
    · have hd1 : decide ((400 : Int) < (s.size : Int)) = false := by simp; omega
      have hd2 : decide ((200 : Int) < (c.size : Int)) = true := by simp; omega
      go_enter Try.func3, Try.ntmps3
      go_wp2_with fail
      refine (told_any _).mono ?_
      rintro e w1 ⟨rfl, hb⟩
      go_wp2
      go_ret
      exact ⟨rfl, hb⟩
  · have hd1 : decide ((400 : Int) < (s.size : Int)) = true := by simp; omega
    go_enter Try.func3, Try.ntmps3
    go_wp2_with fail
    refine (told_any _).mono ?_
    rintro e w1 ⟨rfl, hb⟩
    go_wp2
    go_ret
    exact ⟨rfl, hb⟩
end Go.Proofs.Ytkngppkchaadhaa
