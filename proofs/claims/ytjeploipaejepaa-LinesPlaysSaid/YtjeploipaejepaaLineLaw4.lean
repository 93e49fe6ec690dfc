/- The walk of LinesPlays (under way). -/
import Derived.Test.YtjeploipaejepaaLineLaw3
import Derived.Test.YtjeploipaejepaaLineBytes
import Derived.Test.YtjeploipaejepaaArgOps
import Derived.Test.YtjeploipaejepaaLineFeed
set_option linter.unusedVariables false
set_option linter.unusedSimpArgs false
namespace Go.Proofs.Ytjeploipaejepaa
open Go.RowKit

theorem opCells_at : ∀ (l : List OpR) (i : Nat), i < l.length → (opCells l)[i * 4]? = some (.int .i64 (l.getD i default).k) ∧ (opCells l)[i * 4 + 1]? = some (.int .i64 (l.getD i default).a) ∧ (opCells l)[i * 4 + 2]? = some (.int .i64 (l.getD i default).d) ∧ (opCells l)[i * 4 + 3]? = some (l.getD i default).v
  | [], i, h => by simp at h
  | o :: l, 0, _ => by simp [opCells]
  | o :: l, i + 1, h => by
    have := opCells_at l i (by simpa using h)
    have e1 : (i + 1) * 4 = (i * 4) + 4 := by omega
    have e2 : opCells (o :: l) = .int .i64 o.k :: .int .i64 o.a :: .int .i64 o.d :: o.v :: opCells l := rfl
    rw [e1, e2]
    simpa using this

theorem sb_append (s t : ByteArray) : sb (s ++ t) = sb s ++ sb t := by simp [sb, ByteArray.data_append]
theorem sb_extract (s : ByteArray) (a b : Nat) : sb (s.extract a b) = ((sb s).drop a).take (b - a) := by
  simp [sb, ByteArray.data_extract, List.map_take, List.map_drop]
theorem sb_parts (s : ByteArray) (p q : Nat) (t : ByteArray) (h : p + q ≤ s.size) : sb (s.extract 0 p ++ t ++ s.extract (p + q) s.size) = (sb s).take p ++ sb t ++ (sb s).drop (p + q) := by
  have e : ∀ a b : ByteArray, sb (a ++ b) = sb a ++ sb b := fun a b => by simp [sb, ByteArray.data_append]
  rw [e, e, sb_extract, sb_extract]
  have hl := sb_len s
  rw [List.take_of_length_le (l := (sb s).drop (p + q)) (by simp; omega)]
  simp
/-- what the law makes of a step's kind -/
theorem kind5 (x : Int) : ∃ k : Nat, k < 5 ∧ (x.tmod 5 + 5).tmod 5 = (k : Int) ∧ -5 < x.tmod 5 ∧ x.tmod 5 < 5 := by
  have h1 := Int.tmod_lt_of_pos x (show (0 : Int) < 5 by omega)
  have h2 : -5 < x.tmod 5 := by
    rcases Int.le_total 0 x with h | h
    · have := Int.tmod_nonneg 5 h; omega
    · have h5 := Int.tmod_lt_of_pos (-x) (show (0 : Int) < 5 by omega)
      rw [Int.neg_tmod] at h5; omega
  have h3 : 0 ≤ (x.tmod 5 + 5).tmod 5 := Int.tmod_nonneg 5 (by omega)
  have h4 := Int.tmod_lt_of_pos (x.tmod 5 + 5) (show (0 : Int) < 5 by omega)
  exact ⟨((x.tmod 5 + 5).tmod 5).toNat, by omega, by omega, h2, h1⟩

set_option maxHeartbeats 40000000 in
set_option maxRecDepth 1000000 in
theorem linesPlays_walk (l : List OpR) (v : Value) (w : World) (hr : Row w v l.length (opCells l)) (hg : ∀ o ∈ l, opGood w o) :
    Calls Try.prog 4 #[v] w fun e w' => e = .returned (.bool true) ∧ Below w.heap.size w w' := by
  obtain ⟨ov, cv, rfl⟩ := hr.slice
  have hmx := hr.le
  obtain ⟨_, _, e1, _, _, hrow⟩ := hr
  simp only [Value.slice.injEq, true_and] at e1
  obtain ⟨rfl, rfl⟩ := e1
  have Hr := Lib.hid hrow
  have Hg := Lib.hid hg
  clear hrow hg
  go_enter Try.func4, Try.ntmps4
  go_wp2_with fail
  refine (newB_any _).mono ?_
  rintro e w1 ⟨rfl, hI1, hb1⟩
  obtain ⟨B, hB⟩ : ∃ B, B = w.heap.size := ⟨_, rfl⟩
  rw [← hB] at hI1
  rw [← hB]
  have hlow : ∀ w', Below B w w' → Below w.heap.size w w' := fun w' h => hB ▸ h
  have hb1' : Below B w w1 := hB ▸ hb1
  have HL := Lib.hid (And.intro hlow hB)
  clear hB hlow hb1
  by_cases hl : 60 < l.length
  · go_wp2_with (go_at_call 13; refine (told_any _).mono ?_; rintro e w2 ⟨rfl, hb2⟩)
    go_ret
    exact ⟨rfl, bel_then (HL.out.1 _ hb1') hb2⟩
  have hn : l.length ≤ 60 := by omega
  clear hl
  go_wp2_with fail
  go_loopw [4, 5] (fun bv i wr => ∃ (j : Nat) (s : ByteArray), j ≤ l.length ∧ i = .int .i64 j ∧ bv = .string s ∧ s.size ≤ 40 * j ∧ IdxB wr B B (sb s) ∧ Below B w wr) (fun _ i _ => l.length - (intOf i).toNat)
  case atStart => exact ⟨0, ByteArray.empty, Nat.zero_le _, rfl, rfl, by simp, by simpa [sb] using hI1, hb1'⟩
  case round =>
    obtain ⟨j, s, hj, rfl, rfl, hs, hI, hbel⟩ := hrel
    by_cases hjk : j < l.length
    · rcases Hr.out with ⟨h0, _⟩ | ⟨bl, off, rfl, hlt, hcell⟩
      · omega
      obtain ⟨q0, q1, q2, q3⟩ := opCells_at l j hjk
      have c0 := hcell _ _ q0
      have c1 := hcell _ _ q1
      have c2 := hcell _ _ q2
      have c3 := hcell _ _ q3
      have hltB : bl < B := by rw [HL.out.2]; exact hlt
      rw [← hbel.cell hltB] at c0 c1 c2 c3
      rw [← Nat.add_assoc] at c1 c2 c3
      obtain ⟨g1, g2, g3, g4, g5⟩ := Hg.out (l.getD j default) (by simp [List.getD, List.getElem?_eq_getElem hjk])
      obtain ⟨o, ho⟩ : ∃ o, o = l.getD j default := ⟨_, rfl⟩
      rw [← ho] at c0 c1 c2 c3 g1 g2 g3 g4 g5
      obtain ⟨kk, ka, kd, kv, bs⟩ := o
      simp only at c0 c1 c2 c3 g1 g2 g3 g4 g5
      obtain ⟨ob, cb, rfl⟩ := g4.slice
      obtain ⟨k, hk, ek, ek1, ek2⟩ := kind5 kk
      have HG := Lib.hid (And.intro g4 g5)
      have HI := Lib.hid (And.intro hI hbel)
      have hbm := g4.le
      clear hcell q0 q1 q2 q3 ho g1 g2 g3 g4 g5 hI hbel
      by_cases hb40 : 40 < bs.length
      · go_wp2_with (go_at_call 13; refine (told_any _).mono ?_; rintro e w2 ⟨rfl, hb2⟩)
        go_ret
        exact ⟨rfl, bel_then (HL.out.1 _ (HI.out.2.alloc (Nat.le_trans (by rw [HL.out.2]; exact Nat.le_refl _) HI.out.2.size) _)) hb2⟩
      have hb : bs.length ≤ 40 := by omega
      clear hb40
      have hBs : B < wr.heap.size := by obtain ⟨_, _, h, _⟩ := HI.out.1; exact idx_lt h
      have hsb := sb_len s
      have hw : B ≤ wr.heap.size := by omega
      by_cases hk2 : k < 2
      · go_wp2_with fail
        refine (feedBF_any B B (sb s) bs _ _ (idx_below HI.out.1 (bel_new (Below.refl _ _) _)) (by omega) (by omega) ((HG.out.1.below (HL.out.1 _ HI.out.2)).below (bel_new (Below.refl _ _) _)) HG.out.2).mono ?_
        rintro e w2 ⟨rfl, hI2, hb2, hfr⟩
        have ho2 := hfr wr.heap.size _ _ _ (heap_alloc_new wr (.cells #[.int .i64 kk, .int .i64 ka, .int .i64 kd, .slice ob bs.length cb] 37)) (by decide) (by omega)
        have hbel2 : Below B w w2 := (HI.out.2.alloc hw _).trans hb2
        have c3' : w2.cell? ⟨wr.heap.size, 3, none⟩ = some (.slice ob bs.length cb) := by simp [World.cell?, ho2]
        have hcv := conv_row (HG.out.1.below (HL.out.1 _ hbel2))
        have H2 := Lib.hid (And.intro hI2 hbel2)
        clear hfr ho2 hb2 hI2 hbel2 c0 c1 c2 c3
        have hsn := strOfNums_size bs
        have hsz : ¬ 9223372036854775807 < s.size + (strOfNums bs).size := by omega
        go_wp2_with fail
        have hsb2 : sb (s ++ strOfNums bs) = sb s ++ bs := by rw [sb_append, sb_nums bs HG.out.2]
        have hln : (sb s ++ bs).length ≤ 100000 := by rw [List.length_append, hsb]; omega
        have hszs : (s ++ strOfNums bs).size ≤ 40 * (j + 1) := by rw [ByteArray.size_append]; omega
        obtain ⟨t, ht⟩ : ∃ t, t = s ++ strOfNums bs := ⟨_, rfl⟩
        rw [← ht] at hsb2 hszs ⊢
        have H3 := Lib.hid (And.intro hsb2 (And.intro hln hszs))
        clear hsb2 hln hszs ht hsz hcv c3' hsn
        refine (startsB_any B B (sb s ++ bs) w2 H2.out.1 H3.out.2.1).mono ?_
        rintro e w3 ⟨u3, rfl, hown3, hb3⟩
        have hI3 := idx_below H2.out.1 hb3
        have hbel3 : Below B w w3 := H2.out.2.trans (hb3.mono (by have := H2.out.2.size; have := HI.out.2.size; rw [HL.out.2]; exact H2.out.2.size))
        have h3s : B ≤ w3.heap.size := by rw [HL.out.2]; exact hbel3.size
        clear hb3
        go_wp2_with fail
        refine (refStarts_any t _ (by have := H3.out.2.2; omega)).mono ?_
        rintro e w4 ⟨u4, rfl, hown4, hb4⟩
        rw [H3.out.1] at hown4
        have hown3' := owns_below hown3 hb4
        have hI4 := idx_below hI3 hb4
        have hbel4 : Below B w w4 := hbel3.trans (hb4.mono h3s)
        have h4s : B ≤ w4.heap.size := by rw [HL.out.2]; exact hbel4.size
        clear hb4 hown3 hI3 hbel3
        go_wp2_with fail
        refine (numbers_same (sts (sb s ++ bs)) _ _ _ (Row.owned hown3') (Row.owned hown4) (by have := sts_le (sb s ++ bs); have := H3.out.2.1; omega)).mono ?_
        rintro e w5 ⟨rfl, hb5⟩
        have hI5 : IdxB w5 B B (sb s ++ bs) := idx_below hI4 hb5
        have hbel5 : Below B w w5 := hbel4.trans (hb5.mono h4s)
        rw [← H3.out.1] at hI5
        have H5 := Lib.hid (And.intro hI5 hbel5)
        clear hb5 hown3' hown4 hI4 hbel4 hI5 hbel5
        go_wp2
        go_roundw
        case rel => exact ⟨j + 1, t, by omega, by go_num, rfl, H3.out.2.2, H5.out.1, H5.out.2⟩
        case measure => simp [intOf] <;> omega
      have hk2' : ¬ (k : Int) < 2 := by omega
      have hIa : IdxB (wr.alloc (.cells #[.int .i64 kk, .int .i64 ka, .int .i64 kd, .slice ob bs.length cb] 37)) B B (sb s) := idx_below HI.out.1 (bel_new (Below.refl _ _) _)
      have hbela : Below B w (wr.alloc (.cells #[.int .i64 kk, .int .i64 ka, .int .i64 kd, .slice ob bs.length cb] 37)) := HI.out.2.alloc hw _
      by_cases hk4 : k < 4
      · obtain ⟨p, hp, ep⟩ := u64_mod ka (1 + s.size) (by omega) (by omega)
        obtain ⟨q, hq, eq⟩ := u64_mod kd (1 + (s.size - p)) (by omega) (by omega)
        have ep1 : (IntKind.u64.wrap ka).tmod ((s.size : Int) + 1) = (p : Int) := by rw [← ep]; congr 1; omega
        have eq1 : (IntKind.u64.wrap kd).tmod ((s.size : Int) - p + 1) = (q : Int) := by rw [← eq]; congr 1; omega
        have hpq : p + q ≤ s.size := by omega
        have hIb : IdxB (wr.alloc (.cells #[.int .i64 kk, .int .i64 p, .int .i64 q, .slice ob bs.length cb] 37)) B B (sb s) := idx_below HI.out.1 (bel_new (Below.refl _ _) _)
        have hbelb : Below B w (wr.alloc (.cells #[.int .i64 kk, .int .i64 p, .int .i64 q, .slice ob bs.length cb] 37)) := HI.out.2.alloc hw _
        have H2 := Lib.hid (And.intro hIb hbelb)
        clear hIa hbela hIb hbelb ep eq
        go_wp2_with fail
        refine (spliceB_any B B p q (sb s) bs _ _ _ H2.out.1 (by omega) (by omega) ((HG.out.1.below (HL.out.1 _ HI.out.2)).below (bel_new (Below.refl _ _) _)) HG.out.2 (by omega)).mono ?_
        rintro e w2 ⟨rfl, hI2, hb2, hg2⟩
        have ho2 : w2.heap[wr.heap.size]? = some (.cells #[.int .i64 kk, .int .i64 p, .int .i64 q, .slice ob bs.length cb] 37 (0, 0)) := by
          rw [hg2.block wr.heap.size (by simp) (by simp; omega)]; exact heap_alloc_new wr _
        have hbel2 : Below B w w2 := H2.out.2.trans hb2
        have c1' : w2.cell? ⟨wr.heap.size, 1, none⟩ = some (.int .i64 p) := by simp [World.cell?, ho2]
        have c2' : w2.cell? ⟨wr.heap.size, 2, none⟩ = some (.int .i64 q) := by simp [World.cell?, ho2]
        have c3' : w2.cell? ⟨wr.heap.size, 3, none⟩ = some (.slice ob bs.length cb) := by simp [World.cell?, ho2]
        have hcv := conv_row (HG.out.1.below (HL.out.1 _ hbel2))
        have hcvd := conv_row (HG.out.1.below (HL.out.1 _ hbel2.drew))
        have hsn := strOfNums_size bs
        have H3 := Lib.hid (And.intro hI2 hbel2)
        clear ho2 hI2 hb2 hg2 hbel2 c0 c1 c2 c3
        go_wp2_with fail
        have hw1 : IntKind.i64.wrap ((p : Int) + q) = (p : Int) + q := iw (by omega)
        go_region
        all_goals (try go_wp2_with fail)
        obtain ⟨t, ht⟩ : ∃ t, t = s.extract 0 p ++ strOfNums bs ++ s.extract (p + q) s.size := ⟨_, rfl⟩
        have hst : sb t = (sb s).take p ++ bs ++ (sb s).drop (p + q) := by rw [ht, sb_parts s p q _ hpq, sb_nums bs HG.out.2]
        have hts : t.size ≤ 40 * (j + 1) := by rw [← sb_len t, hst]; simp; omega
        rw [← ht]
        have H4 := Lib.hid (And.intro (show IdxB w2.drew B B (sb t) from by rw [hst]; exact H3.out.1) H3.out.2.drew)
        clear ht hst hw1 hcv hcvd c1' c2' c3' hsn
        refine (startsB_any B B (sb t) _ H4.out.1 (by rw [sb_len]; omega)).mono ?_
        rintro e w3 ⟨u3, rfl, hown3, hb3⟩
        have hI3 := idx_below H4.out.1 hb3
        have hbel3 : Below B w w3 := H4.out.2.trans (hb3.mono (by rw [HL.out.2]; exact H4.out.2.size))
        have h3s : B ≤ w3.heap.size := by rw [HL.out.2]; exact hbel3.size
        clear hb3
        go_wp2_with fail
        refine (refStarts_any t _ (by omega)).mono ?_
        rintro e w4 ⟨u4, rfl, hown4, hb4⟩
        have hown3' := owns_below hown3 hb4
        have hI4 := idx_below hI3 hb4
        have hbel4 : Below B w w4 := hbel3.trans (hb4.mono h3s)
        have h4s : B ≤ w4.heap.size := by rw [HL.out.2]; exact hbel4.size
        clear hb4 hown3 hI3 hbel3
        go_wp2_with fail
        refine (numbers_same (sts (sb t)) _ _ _ (Row.owned hown3') (Row.owned hown4) (by have := sts_le (sb t); rw [sb_len] at this; omega)).mono ?_
        rintro e w5 ⟨rfl, hb5⟩
        have hI5 : IdxB w5 B B (sb t) := idx_below hI4 hb5
        have hbel5 : Below B w w5 := hbel4.trans (hb5.mono h4s)
        have H5 := Lib.hid (And.intro hI5 hbel5)
        clear hb5 hown3' hown4 hI4 hbel4 hI5 hbel5
        go_wp2
        go_roundw
        case rel => exact ⟨j + 1, t, by omega, by go_num, rfl, hts, H5.out.1, H5.out.2⟩
        case measure => simp [intOf] <;> omega
      have hk4' : ¬ (k : Int) < 4 := by omega
      by_cases hout : ka < 0 ∨ kd < 0 ∨ (s.size : Int) < ka ∨ (s.size : Int) - ka < kd
      · have H2 := Lib.hid (And.intro hIa hbela)
        clear hIa hbela
        go_wp2_with fail
        refine (splice_out B B (sb s).length (brk (sb s) 0 (sb s).length) ka kd _ _ _ H2.out.1 (by omega) (by rw [hsb]; exact hout)).mono ?_
        rintro e w2 ⟨rfl, rfl⟩
        have hcase : ka < 0 ∨ (0 ≤ ka ∧ kd < 0) ∨ (0 ≤ ka ∧ 0 ≤ kd ∧ (s.size : Int) < ka) ∨ (0 ≤ ka ∧ 0 ≤ kd ∧ ka ≤ s.size ∧ (s.size : Int) - ka < kd) := by omega
        clear hout
        rcases hcase with h | ⟨h, h1⟩ | ⟨h, h1, h2⟩ | ⟨h, h1, h2, h3⟩
        all_goals (
          go_wp2_with fail
          refine (startsB_any B B (sb s) _ H2.out.1 (by omega)).mono ?_
          rintro e w3 ⟨u3, rfl, hown3, hb3⟩
          have hI3 := idx_below H2.out.1 hb3
          have hbel3 : Below B w w3 := H2.out.2.trans (hb3.mono (by rw [HL.out.2]; exact H2.out.2.size))
          have h3s : B ≤ w3.heap.size := by rw [HL.out.2]; exact hbel3.size
          clear hb3
          go_wp2_with fail
          refine (refStarts_any s _ (by omega)).mono ?_
          rintro e w4 ⟨u4, rfl, hown4, hb4⟩
          have hown3' := owns_below hown3 hb4
          have hI4 := idx_below hI3 hb4
          have hbel4 : Below B w w4 := hbel3.trans (hb4.mono h3s)
          have h4s : B ≤ w4.heap.size := by rw [HL.out.2]; exact hbel4.size
          clear hb4 hown3 hI3 hbel3
          go_wp2_with fail
          refine (numbers_same (sts (sb s)) _ _ _ (Row.owned hown3') (Row.owned hown4) (by have := sts_le (sb s); omega)).mono ?_
          rintro e w5 ⟨rfl, hb5⟩
          have hI5 : IdxB w5 B B (sb s) := idx_below hI4 hb5
          have hbel5 : Below B w w5 := hbel4.trans (hb5.mono h4s)
          have H5 := Lib.hid (And.intro hI5 hbel5)
          clear hb5 hown3' hown4 hI4 hbel4 hI5 hbel5
          go_wp2
          go_roundw
          case rel => exact ⟨j + 1, s, by omega, by go_num, rfl, by omega, H5.out.1, H5.out.2⟩
          case measure => simp [intOf] <;> omega)
      · obtain ⟨p, rfl⟩ : ∃ p : Nat, ka = (p : Int) := ⟨ka.toNat, by omega⟩
        obtain ⟨q, rfl⟩ : ∃ q : Nat, kd = (q : Int) := ⟨kd.toNat, by omega⟩
        have hpq : p + q ≤ s.size := by omega
        have H2 := Lib.hid (And.intro hIa hbela)
        clear hIa hbela hout
        go_wp2_with fail
        refine (spliceB_any B B p q (sb s) bs _ _ _ H2.out.1 (by omega) (by omega) ((HG.out.1.below (HL.out.1 _ HI.out.2)).below (bel_new (Below.refl _ _) _)) HG.out.2 (by omega)).mono ?_
        rintro e w2 ⟨rfl, hI2, hb2, hg2⟩
        have ho2 : w2.heap[wr.heap.size]? = some (.cells #[.int .i64 kk, .int .i64 p, .int .i64 q, .slice ob bs.length cb] 37 (0, 0)) := by
          rw [hg2.block wr.heap.size (by simp) (by simp; omega)]; exact heap_alloc_new wr _
        have hbel2 : Below B w w2 := H2.out.2.trans hb2
        have c1' : w2.cell? ⟨wr.heap.size, 1, none⟩ = some (.int .i64 p) := by simp [World.cell?, ho2]
        have c2' : w2.cell? ⟨wr.heap.size, 2, none⟩ = some (.int .i64 q) := by simp [World.cell?, ho2]
        have c3' : w2.cell? ⟨wr.heap.size, 3, none⟩ = some (.slice ob bs.length cb) := by simp [World.cell?, ho2]
        have hcv := conv_row (HG.out.1.below (HL.out.1 _ hbel2))
        have hcvd := conv_row (HG.out.1.below (HL.out.1 _ hbel2.drew))
        have hsn := strOfNums_size bs
        have H3 := Lib.hid (And.intro hI2 hbel2)
        clear ho2 hI2 hb2 hg2 hbel2 c0 c1 c2 c3
        go_wp2_with fail
        have hw1 : IntKind.i64.wrap ((p : Int) + q) = (p : Int) + q := iw (by omega)
        go_region
        all_goals (try go_wp2_with fail)
        obtain ⟨t, ht⟩ : ∃ t, t = s.extract 0 p ++ strOfNums bs ++ s.extract (p + q) s.size := ⟨_, rfl⟩
        have hst : sb t = (sb s).take p ++ bs ++ (sb s).drop (p + q) := by rw [ht, sb_parts s p q _ hpq, sb_nums bs HG.out.2]
        have hts : t.size ≤ 40 * (j + 1) := by rw [← sb_len t, hst]; simp; omega
        rw [← ht]
        have H4 := Lib.hid (And.intro (show IdxB w2.drew B B (sb t) from by rw [hst]; exact H3.out.1) H3.out.2.drew)
        clear ht hst hw1 hcv hcvd c1' c2' c3' hsn
        refine (startsB_any B B (sb t) _ H4.out.1 (by rw [sb_len]; omega)).mono ?_
        rintro e w3 ⟨u3, rfl, hown3, hb3⟩
        have hI3 := idx_below H4.out.1 hb3
        have hbel3 : Below B w w3 := H4.out.2.trans (hb3.mono (by rw [HL.out.2]; exact H4.out.2.size))
        have h3s : B ≤ w3.heap.size := by rw [HL.out.2]; exact hbel3.size
        clear hb3
        go_wp2_with fail
        refine (refStarts_any t _ (by omega)).mono ?_
        rintro e w4 ⟨u4, rfl, hown4, hb4⟩
        have hown3' := owns_below hown3 hb4
        have hI4 := idx_below hI3 hb4
        have hbel4 : Below B w w4 := hbel3.trans (hb4.mono h3s)
        have h4s : B ≤ w4.heap.size := by rw [HL.out.2]; exact hbel4.size
        clear hb4 hown3 hI3 hbel3
        go_wp2_with fail
        refine (numbers_same (sts (sb t)) _ _ _ (Row.owned hown3') (Row.owned hown4) (by have := sts_le (sb t); rw [sb_len] at this; omega)).mono ?_
        rintro e w5 ⟨rfl, hb5⟩
        have hI5 : IdxB w5 B B (sb t) := idx_below hI4 hb5
        have hbel5 : Below B w w5 := hbel4.trans (hb5.mono h4s)
        have H5 := Lib.hid (And.intro hI5 hbel5)
        clear hb5 hown3' hown4 hI4 hbel4 hI5 hbel5
        go_wp2
        go_roundw
        case rel => exact ⟨j + 1, t, by omega, by go_num, rfl, hts, H5.out.1, H5.out.2⟩
        case measure => simp [intOf] <;> omega
    · have hjn : j = l.length := by omega
      subst hjn
      go_wp2_with (go_at_call 13; refine (told_any _).mono ?_; rintro e w2 ⟨rfl, hb2⟩)
      go_ret
      exact ⟨rfl, bel_then (HL.out.1 _ hbel) hb2⟩
end Go.Proofs.Ytjeploipaejepaa
