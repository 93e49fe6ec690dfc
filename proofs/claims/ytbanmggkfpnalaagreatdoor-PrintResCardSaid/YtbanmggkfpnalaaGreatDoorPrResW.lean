/- PrintRes' walk: sets and expressions have the texts that the document says. -/
import Derived.Test.YtbanmggkfpnalaaGreatDoorRefSet
import Derived.Test.YtbanmggkfpnalaaGreatDoorPrTold
set_option linter.unusedVariables false
set_option linter.unusedSimpArgs false
namespace Go.Proofs.YtbanmggkfpnalaaGreatDoor
open Go.RowKit Ru

theorem rin_any (t : ByteArray) (m : Bool) (w : World) (ht : t.size ≤ 1000000000000) : Calls Tryz.prog 67 #[.string t, .bool m] w fun e w' => e = .returned (.string (hold t m)) ∧ w' = w := by
  have hu1 : ¬ 9223372036854775807 < 1 + t.size := by omega
  have hu2 : ¬ 9223372036854775807 < 1 + t.size + 1 := by omega
  clear ht
  cases m with
  | true =>
    go_enter Tryz.func67, Tryz.ntmps67
    go_wp2_with fail
    go_ret
    exact ⟨rfl, rfl⟩
  | false =>
    go_enter Tryz.func67, Tryz.ntmps67
    go_wp2_with fail
    go_ret
    exact ⟨rfl, rfl⟩
theorem len_two {α : Type} {l : List α} (h : l.length = 2) : ∃ a b, l = [a, b] := by
  match l, h with
  | [a, b], _ => exact ⟨a, b, rfl⟩
theorem may_le : ∀ {l : List (Int × Int)}, mayB l = true → ∀ x ∈ l, x.1 ≤ x.2 := by
  intro l h x hx
  obtain ⟨i, hi, rfl⟩ := List.getElem_of_mem hx
  have := ((mayB_iff l).1 h i hi).1
  have e : l.getD i (0, 0) = l[i] := by simp [List.getD, hi]
  rw [e] at this
  unfold okR at this
  simp [scal] at this
  omega
def ReIH (N : Nat) : Prop := ∀ (e : RE) (sv lv : Value) (w : World), e.size ≤ N → e.size ≤ 1000 → e.prt = true → ReIs w e sv lv →
  Calls Tryz.prog 29 #[.agg #[.int .i64 e.kind, sv, lv]] w fun x w' => x = .returned (.string e.text) ∧ Below w.heap.size w w'
set_option maxHeartbeats 8000000 in
set_option maxRecDepth 100000 in
theorem re_step (N : Nat) (ih : ReIH N) : ReIH (N + 1) := by
  intro e sv lv w hs hs2 hpr hr
  have hte := RE.text_eq e
  have hsz := re_size e.size e (Nat.le_refl _) hpr
  have hset := hr.set
  obtain ⟨⟨o1, q1, rfl⟩, ⟨o2, q2, rfl⟩⟩ := hr.form
  obtain ⟨t, ht⟩ : ∃ t, t = e.text := ⟨_, rfl⟩
  rw [← ht] at hte hsz ⊢
  rcases RE.shp_cases (RE.prt_shp hpr) with k | k | ⟨k, h1, h2⟩ | ⟨k, h1⟩ | ⟨k, h1⟩ | ⟨k, h1⟩
  · rw [k] at hte ⊢
    obtain ⟨a, ha⟩ : ∃ a, a = e.set.length := ⟨_, rfl⟩
    obtain ⟨b, hb⟩ : ∃ b, b = e.parts.length := ⟨_, rfl⟩
    rw [← ha, ← hb]
    have HX := Lib.hid (show t = ⟨#[91, 93]⟩ by rw [hte]; rfl)
    clear hte hsz hset hs hs2 hpr hr ht k ha hb ih
    go_enter Tryz.func29, Tryz.ntmps29
    go_wp2_with fail
    go_ret
    exact ⟨by rw [HX.out]; rfl, by repeat (first | exact Below.refl _ _ | (refine bel_new ?_ _))⟩
  · rw [k] at hte ⊢
    obtain ⟨a, ha⟩ : ∃ a, a = e.set.length := ⟨_, rfl⟩
    obtain ⟨b, hb⟩ : ∃ b, b = e.parts.length := ⟨_, rfl⟩
    rw [← ha, ← hb]
    have HX := Lib.hid (show t = ⟨#[40, 41]⟩ by rw [hte]; rfl)
    clear hte hsz hset hs hs2 hpr hr ht k ha hb ih
    go_enter Tryz.func29, Tryz.ntmps29
    go_wp2_with fail
    go_ret
    exact ⟨by rw [HX.out]; rfl, by repeat (first | exact Below.refl _ _ | (refine bel_new ?_ _))⟩
  · have hps := fun w' (hb : Below w.heap.size w w') => rset_any e.set _ w' (hset.below hb) (may_rok h2) (may_le h2) (by omega)
    rw [k] at hte ⊢
    have HX := Lib.hid (show t = setB e.set by rw [hte]; rfl)
    obtain ⟨b, hb⟩ : ∃ b, b = e.parts.length := ⟨_, rfl⟩
    obtain ⟨a, ha⟩ : ∃ a, a = e.set.length := ⟨_, rfl⟩
    rw [← ha] at hps
    rw [← ha, ← hb]
    have HP := Lib.hid hps
    clear hte hsz hset hs hs2 hpr hr ht k ha hb ih hps h1 h2
    go_enter Tryz.func29, Tryz.ntmps29
    go_wp2_with fail
    refine (HP.out _ (bel_new (Below.refl _ _) _)).mono ?_
    rintro x w2 ⟨rfl, hb2⟩
    have HB2 := Lib.hid (bel_then (bel_new (Below.refl w.heap.size w) _) hb2)
    clear hb2
    go_wp2_with fail
    go_ret
    exact ⟨by rw [HX.out]; rfl, HB2.out⟩
  · obtain ⟨y0, y1, hl⟩ : ∃ y0 y1, e.parts = [y0, y1] := len_two h1
    have hln : e.parts.length = 2 := by rw [hl]; rfl
    have hp0 : e.parts[0]? = some y0 := by rw [hl]; rfl
    obtain ⟨b0, off0, cap0, s0, l0, hlv0, hbl0, z00, z01, z02, hpi0⟩ := hr.part hp0
    have hp1 : e.parts[1]? = some y1 := by rw [hl]; rfl
    obtain ⟨b1, off1, cap1, s1, l1, hlv1, hbl1, z10, z11, z12, hpi1⟩ := hr.part hp1
    rw [hlv0] at hlv1
    cases hlv1
    cases hlv0
    simp only [Nat.zero_mul, Nat.one_mul, Nat.add_zero, Nat.add_assoc, Nat.reduceAdd] at z00 z01 z02 z10 z11 z12
    have hc0 := fun w' hb => ih y0 s0 l0 w' (by have := RE.size_part hp0; omega) (by have := RE.size_part hp0; omega) (RE.prt_part hpr hp0) (hpi0.moved (show Below w.heap.size w w' from hb))
    have hz0 := re_size y0.size y0 (Nat.le_refl _) (RE.prt_part hpr hp0)
    have hq0 := RE.size_part hp0
    obtain ⟨⟨so0, sq0, rfl⟩, ⟨lo0, lq0, rfl⟩⟩ := hpi0.form
    obtain ⟨t0, ht0⟩ : ∃ z, z = y0.text := ⟨_, rfl⟩
    obtain ⟨k0, hk0⟩ : ∃ z, z = y0.kind := ⟨_, rfl⟩
    obtain ⟨n0, hn0⟩ : ∃ z, z = y0.set.length := ⟨_, rfl⟩
    obtain ⟨r0, hr0⟩ : ∃ z, z = y0.parts.length := ⟨_, rfl⟩
    have hc1 := fun w' hb => ih y1 s1 l1 w' (by have := RE.size_part hp1; omega) (by have := RE.size_part hp1; omega) (RE.prt_part hpr hp1) (hpi1.moved (show Below w.heap.size w w' from hb))
    have hz1 := re_size y1.size y1 (Nat.le_refl _) (RE.prt_part hpr hp1)
    have hq1 := RE.size_part hp1
    obtain ⟨⟨so1, sq1, rfl⟩, ⟨lo1, lq1, rfl⟩⟩ := hpi1.form
    obtain ⟨t1, ht1⟩ : ∃ z, z = y1.text := ⟨_, rfl⟩
    obtain ⟨k1, hk1⟩ : ∃ z, z = y1.kind := ⟨_, rfl⟩
    obtain ⟨n1, hn1⟩ : ∃ z, z = y1.set.length := ⟨_, rfl⟩
    obtain ⟨r1, hr1⟩ : ∃ z, z = y1.parts.length := ⟨_, rfl⟩
    have hteq : t = hold y0.text ([4].contains y0.kind) ++ hold y1.text ([4, 3].contains y1.kind) := by rw [hte, k, hl]; rfl
    rw [hln]
    rw [k]
    obtain ⟨a, ha⟩ : ∃ a, a = e.set.length := ⟨_, rfl⟩
    rw [← ha]
    rw [← ht0] at hteq hc0 hz0
    rw [← hk0] at hteq hc0 z00
    rw [← hn0] at hc0 z01
    rw [← hr0] at hc0 z02
    rw [← ht1] at hteq hc1 hz1
    rw [← hk1] at hteq hc1 z10
    rw [← hn1] at hc1 z11
    rw [← hr1] at hc1 z12
    rw [hln] at *
    obtain ⟨W, hW⟩ : ∃ W, W = w.alloc (.cells #[.int .i64 3, .slice o1 a q1, .slice (some ⟨b0, off0, none⟩) 2 q2] 25) := ⟨_, rfl⟩
    have HBW := Lib.hid (show Below w.heap.size w W by rw [hW]; exact (Below.refl _ _).alloc (Nat.le_refl _) _)
    have c2 : W.cell? ⟨w.heap.size, 2, none⟩ = some (.slice (some ⟨b0, off0, none⟩) 2 q2) := by rw [hW]; exact Joins.cell_alloc_mark_at _ #[.int .i64 3, .slice o1 a q1, .slice (some ⟨b0, off0, none⟩) 2 q2] 25 (0, 0) _ 2 (by simp)
    obtain ⟨ι, K, hne, hkb, hks⟩ := kept_family W
    have KB := Lib.hid hkb
    have kS := hks _ (Below.refl _ _).drew
    have j2 : ∀ i, (K i).cell? ⟨w.heap.size, 2, none⟩ = some (.slice (some ⟨b0, off0, none⟩) 2 q2) := fun i => cell_later (hkb i) c2
    have x00 : ∀ i, (K i).cell? ⟨b0, off0, none⟩ = some (.int .i64 k0) := fun i => cell_later (hkb i) (cell_later HBW.out z00)
    have x01 : ∀ i, (K i).cell? ⟨b0, off0 + 1, none⟩ = some (.slice so0 n0 sq0) := fun i => cell_later (hkb i) (cell_later HBW.out z01)
    have x02 : ∀ i, (K i).cell? ⟨b0, off0 + 2, none⟩ = some (.slice lo0 r0 lq0) := fun i => cell_later (hkb i) (cell_later HBW.out z02)
    have HC0 := Lib.hid (fun i => calls_kept hkb hks (i := i) (hc0 (K i) (bel_then HBW.out (hkb i))))
    have x10 : ∀ i, (K i).cell? ⟨b0, off0 + 3, none⟩ = some (.int .i64 k1) := fun i => cell_later (hkb i) (cell_later HBW.out z10)
    have x11 : ∀ i, (K i).cell? ⟨b0, off0 + 4, none⟩ = some (.slice so1 n1 sq1) := fun i => cell_later (hkb i) (cell_later HBW.out z11)
    have x12 : ∀ i, (K i).cell? ⟨b0, off0 + 5, none⟩ = some (.slice lo1 r1 lq1) := fun i => cell_later (hkb i) (cell_later HBW.out z12)
    have HC1 := Lib.hid (fun i => calls_kept hkb hks (i := i) (hc1 (K i) (bel_then HBW.out (hkb i))))
    obtain ⟨m0, hm0⟩ : ∃ z, z = (k0 == 4) := ⟨_, rfl⟩
    have gm0 := hm0.symm
    obtain ⟨m1, hm1⟩ : ∃ z, z = (k1 == 4) := ⟨_, rfl⟩
    have gm1 := hm1.symm
    obtain ⟨m2, hm2⟩ : ∃ z, z = (k1 == 3) := ⟨_, rfl⟩
    have gm2 := hm2.symm
    cases m1 with
    | true =>
      have HX := Lib.hid (show t = hold t0 m0 ++ hold t1 true by rw [hteq]; simp only [List.contains_cons, List.contains_nil, gm0, gm1, Bool.or_false, Bool.or_true, Bool.true_or, Bool.false_or])
      have HI0 := Lib.hid (fun i => calls_kept hkb hks (i := i) ((rin_any t0 m0 (K i) (by omega)).mono (fun e w' h => ⟨h.1, by rw [h.2]; exact Below.refl _ _⟩)))
      have HI1 := Lib.hid (fun i => calls_kept hkb hks (i := i) ((rin_any t1 true (K i) (by omega)).mono (fun e w' h => ⟨h.1, by rw [h.2]; exact Below.refl _ _⟩)))
      have hu0 : ¬ 9223372036854775807 < (hold t0 m0).size + (hold t1 true).size := by have := hold_size t0 m0; have := hold_size t1 true; omega
      clear hte hsz hset hs hs2 hpr hr ht k ha hl hln ih hteq hkb hks c2 h1 hp0 hbl0 hpi0 hc0 hz0 hq0 ht0 hk0 hn0 hr0 z00 z01 z02 hp1 hbl1 hpi1 hc1 hz1 hq1 ht1 hk1 hn1 hr1 z10 z11 z12 hm0 hm1 hm2
      go_enter Tryz.func29, Tryz.ntmps29
      go_upto_region 9 with (fail)
      rw [← hW]
      clear hW
      refine region_kept K (by kernel_rfl) (by kernel_rfl) kS ?_
      repeat (go_big_quiet_step (with_reducible first | exact HC0.out _ | exact HC1.out _ | exact HI0.out _ | exact HI1.out _))
      refine wpQuiet_nil ?_
      rintro _ ⟨iw, rfl⟩
      have HB6 := Lib.hid (bel_then HBW.out (KB.out iw))
      go_wp2_with fail
      go_ret
      exact ⟨by rw [HX.out]; rfl, HB6.out⟩
    | false =>
      have HX := Lib.hid (show t = hold t0 m0 ++ hold t1 m2 by rw [hteq]; simp only [List.contains_cons, List.contains_nil, gm0, gm1, gm2, Bool.or_false, Bool.or_true, Bool.true_or, Bool.false_or])
      have HI0 := Lib.hid (fun i => calls_kept hkb hks (i := i) ((rin_any t0 m0 (K i) (by omega)).mono (fun e w' h => ⟨h.1, by rw [h.2]; exact Below.refl _ _⟩)))
      have HI1 := Lib.hid (fun i => calls_kept hkb hks (i := i) ((rin_any t1 m2 (K i) (by omega)).mono (fun e w' h => ⟨h.1, by rw [h.2]; exact Below.refl _ _⟩)))
      have hu0 : ¬ 9223372036854775807 < (hold t0 m0).size + (hold t1 m2).size := by have := hold_size t0 m0; have := hold_size t1 m2; omega
      clear hte hsz hset hs hs2 hpr hr ht k ha hl hln ih hteq hkb hks c2 h1 hp0 hbl0 hpi0 hc0 hz0 hq0 ht0 hk0 hn0 hr0 z00 z01 z02 hp1 hbl1 hpi1 hc1 hz1 hq1 ht1 hk1 hn1 hr1 z10 z11 z12 hm0 hm1 hm2
      go_enter Tryz.func29, Tryz.ntmps29
      go_upto_region 9 with (fail)
      rw [← hW]
      clear hW
      refine region_kept K (by kernel_rfl) (by kernel_rfl) kS ?_
      repeat (go_big_quiet_step (with_reducible first | exact HC0.out _ | exact HC1.out _ | exact HI0.out _ | exact HI1.out _))
      refine wpQuiet_nil ?_
      rintro _ ⟨iw, rfl⟩
      have HB6 := Lib.hid (bel_then HBW.out (KB.out iw))
      go_wp2_with fail
      go_ret
      exact ⟨by rw [HX.out]; rfl, HB6.out⟩
  · obtain ⟨y0, y1, hl⟩ : ∃ y0 y1, e.parts = [y0, y1] := len_two h1
    have hln : e.parts.length = 2 := by rw [hl]; rfl
    have hp0 : e.parts[0]? = some y0 := by rw [hl]; rfl
    obtain ⟨b0, off0, cap0, s0, l0, hlv0, hbl0, z00, z01, z02, hpi0⟩ := hr.part hp0
    have hp1 : e.parts[1]? = some y1 := by rw [hl]; rfl
    obtain ⟨b1, off1, cap1, s1, l1, hlv1, hbl1, z10, z11, z12, hpi1⟩ := hr.part hp1
    rw [hlv0] at hlv1
    cases hlv1
    cases hlv0
    simp only [Nat.zero_mul, Nat.one_mul, Nat.add_zero, Nat.add_assoc, Nat.reduceAdd] at z00 z01 z02 z10 z11 z12
    have hc0 := fun w' hb => ih y0 s0 l0 w' (by have := RE.size_part hp0; omega) (by have := RE.size_part hp0; omega) (RE.prt_part hpr hp0) (hpi0.moved (show Below w.heap.size w w' from hb))
    have hz0 := re_size y0.size y0 (Nat.le_refl _) (RE.prt_part hpr hp0)
    have hq0 := RE.size_part hp0
    obtain ⟨⟨so0, sq0, rfl⟩, ⟨lo0, lq0, rfl⟩⟩ := hpi0.form
    obtain ⟨t0, ht0⟩ : ∃ z, z = y0.text := ⟨_, rfl⟩
    obtain ⟨k0, hk0⟩ : ∃ z, z = y0.kind := ⟨_, rfl⟩
    obtain ⟨n0, hn0⟩ : ∃ z, z = y0.set.length := ⟨_, rfl⟩
    obtain ⟨r0, hr0⟩ : ∃ z, z = y0.parts.length := ⟨_, rfl⟩
    have hc1 := fun w' hb => ih y1 s1 l1 w' (by have := RE.size_part hp1; omega) (by have := RE.size_part hp1; omega) (RE.prt_part hpr hp1) (hpi1.moved (show Below w.heap.size w w' from hb))
    have hz1 := re_size y1.size y1 (Nat.le_refl _) (RE.prt_part hpr hp1)
    have hq1 := RE.size_part hp1
    obtain ⟨⟨so1, sq1, rfl⟩, ⟨lo1, lq1, rfl⟩⟩ := hpi1.form
    obtain ⟨t1, ht1⟩ : ∃ z, z = y1.text := ⟨_, rfl⟩
    obtain ⟨k1, hk1⟩ : ∃ z, z = y1.kind := ⟨_, rfl⟩
    obtain ⟨n1, hn1⟩ : ∃ z, z = y1.set.length := ⟨_, rfl⟩
    obtain ⟨r1, hr1⟩ : ∃ z, z = y1.parts.length := ⟨_, rfl⟩
    have hteq : t = (hold y0.text (([] : List Int).contains y0.kind) ++ ⟨#[124]⟩) ++ hold y1.text ([4].contains y1.kind) := by rw [hte, k, hl]; rfl
    rw [hln]
    rw [k]
    obtain ⟨a, ha⟩ : ∃ a, a = e.set.length := ⟨_, rfl⟩
    rw [← ha]
    rw [← ht0] at hteq hc0 hz0
    rw [← hk0] at hteq hc0 z00
    rw [← hn0] at hc0 z01
    rw [← hr0] at hc0 z02
    rw [← ht1] at hteq hc1 hz1
    rw [← hk1] at hteq hc1 z10
    rw [← hn1] at hc1 z11
    rw [← hr1] at hc1 z12
    rw [hln] at *
    obtain ⟨W, hW⟩ : ∃ W, W = w.alloc (.cells #[.int .i64 4, .slice o1 a q1, .slice (some ⟨b0, off0, none⟩) 2 q2] 25) := ⟨_, rfl⟩
    have HBW := Lib.hid (show Below w.heap.size w W by rw [hW]; exact (Below.refl _ _).alloc (Nat.le_refl _) _)
    have c2 : W.cell? ⟨w.heap.size, 2, none⟩ = some (.slice (some ⟨b0, off0, none⟩) 2 q2) := by rw [hW]; exact Joins.cell_alloc_mark_at _ #[.int .i64 4, .slice o1 a q1, .slice (some ⟨b0, off0, none⟩) 2 q2] 25 (0, 0) _ 2 (by simp)
    obtain ⟨ι, K, hne, hkb, hks⟩ := kept_family W
    have KB := Lib.hid hkb
    have kS := hks _ (Below.refl _ _).drew
    have j2 : ∀ i, (K i).cell? ⟨w.heap.size, 2, none⟩ = some (.slice (some ⟨b0, off0, none⟩) 2 q2) := fun i => cell_later (hkb i) c2
    have x00 : ∀ i, (K i).cell? ⟨b0, off0, none⟩ = some (.int .i64 k0) := fun i => cell_later (hkb i) (cell_later HBW.out z00)
    have x01 : ∀ i, (K i).cell? ⟨b0, off0 + 1, none⟩ = some (.slice so0 n0 sq0) := fun i => cell_later (hkb i) (cell_later HBW.out z01)
    have x02 : ∀ i, (K i).cell? ⟨b0, off0 + 2, none⟩ = some (.slice lo0 r0 lq0) := fun i => cell_later (hkb i) (cell_later HBW.out z02)
    have HC0 := Lib.hid (fun i => calls_kept hkb hks (i := i) (hc0 (K i) (bel_then HBW.out (hkb i))))
    have x10 : ∀ i, (K i).cell? ⟨b0, off0 + 3, none⟩ = some (.int .i64 k1) := fun i => cell_later (hkb i) (cell_later HBW.out z10)
    have x11 : ∀ i, (K i).cell? ⟨b0, off0 + 4, none⟩ = some (.slice so1 n1 sq1) := fun i => cell_later (hkb i) (cell_later HBW.out z11)
    have x12 : ∀ i, (K i).cell? ⟨b0, off0 + 5, none⟩ = some (.slice lo1 r1 lq1) := fun i => cell_later (hkb i) (cell_later HBW.out z12)
    have HC1 := Lib.hid (fun i => calls_kept hkb hks (i := i) (hc1 (K i) (bel_then HBW.out (hkb i))))
    obtain ⟨m1, hm1⟩ : ∃ z, z = (k1 == 4) := ⟨_, rfl⟩
    have gm1 := hm1.symm
    · have HX := Lib.hid (show t = (t0 ++ ⟨#[124]⟩) ++ hold t1 m1 by rw [hteq]; simp only [List.contains_cons, List.contains_nil, gm1, Bool.or_false]; rfl)
      have HI1 := Lib.hid (fun i => calls_kept hkb hks (i := i) ((rin_any t1 m1 (K i) (by omega)).mono (fun e w' h => ⟨h.1, by rw [h.2]; exact Below.refl _ _⟩)))
      have hu0 : ¬ 9223372036854775807 < t0.size + 1 + (hold t1 m1).size := by have := hold_size t1 m1; omega
      have hu1 : ¬ 9223372036854775807 < t0.size + 1 := by omega
      clear hte hsz hset hs hs2 hpr hr ht k ha hl hln ih hteq hkb hks c2 h1 hp0 hbl0 hpi0 hc0 hz0 hq0 ht0 hk0 hn0 hr0 z00 z01 z02 hp1 hbl1 hpi1 hc1 hz1 hq1 ht1 hk1 hn1 hr1 z10 z11 z12 hm1
      go_enter Tryz.func29, Tryz.ntmps29
      go_upto_region 11 with (fail)
      rw [← hW]
      clear hW
      refine region_kept K (by kernel_rfl) (by kernel_rfl) kS ?_
      repeat (go_big_quiet_step (with_reducible first | exact HC0.out _ | exact HC1.out _ | exact HI1.out _))
      refine wpQuiet_nil ?_
      rintro _ ⟨iw, rfl⟩
      have HB6 := Lib.hid (bel_then HBW.out (KB.out iw))
      go_wp2_with fail
      go_ret
      exact ⟨by rw [HX.out]; rfl, HB6.out⟩
  · obtain ⟨y0, hl⟩ : ∃ y0, e.parts = [y0] := List.length_eq_one_iff.1 h1
    have hln : e.parts.length = 1 := by rw [hl]; rfl
    have hp0 : e.parts[0]? = some y0 := by rw [hl]; rfl
    obtain ⟨b0, off0, cap0, s0, l0, hlv0, hbl0, z00, z01, z02, hpi0⟩ := hr.part hp0
    cases hlv0
    simp only [Nat.zero_mul, Nat.one_mul, Nat.add_zero, Nat.add_assoc, Nat.reduceAdd] at z00 z01 z02
    have hc0 := fun w' hb => ih y0 s0 l0 w' (by have := RE.size_part hp0; omega) (by have := RE.size_part hp0; omega) (RE.prt_part hpr hp0) (hpi0.moved (show Below w.heap.size w w' from hb))
    have hz0 := re_size y0.size y0 (Nat.le_refl _) (RE.prt_part hpr hp0)
    have hq0 := RE.size_part hp0
    obtain ⟨⟨so0, sq0, rfl⟩, ⟨lo0, lq0, rfl⟩⟩ := hpi0.form
    obtain ⟨t0, ht0⟩ : ∃ z, z = y0.text := ⟨_, rfl⟩
    obtain ⟨k0, hk0⟩ : ∃ z, z = y0.kind := ⟨_, rfl⟩
    obtain ⟨n0, hn0⟩ : ∃ z, z = y0.set.length := ⟨_, rfl⟩
    obtain ⟨r0, hr0⟩ : ∃ z, z = y0.parts.length := ⟨_, rfl⟩
    have hteq : t = hold y0.text ([3, 4].contains y0.kind) ++ ⟨#[42]⟩ := by rw [hte, k, hl]; rfl
    rw [hln]
    rw [k]
    obtain ⟨a, ha⟩ : ∃ a, a = e.set.length := ⟨_, rfl⟩
    rw [← ha]
    rw [← ht0] at hteq hc0 hz0
    rw [← hk0] at hteq hc0 z00
    rw [← hn0] at hc0 z01
    rw [← hr0] at hc0 z02
    rw [hln] at *
    obtain ⟨W, hW⟩ : ∃ W, W = w.alloc (.cells #[.int .i64 5, .slice o1 a q1, .slice (some ⟨b0, off0, none⟩) 1 q2] 25) := ⟨_, rfl⟩
    have HBW := Lib.hid (show Below w.heap.size w W by rw [hW]; exact (Below.refl _ _).alloc (Nat.le_refl _) _)
    have c2 : W.cell? ⟨w.heap.size, 2, none⟩ = some (.slice (some ⟨b0, off0, none⟩) 1 q2) := by rw [hW]; exact Joins.cell_alloc_mark_at _ #[.int .i64 5, .slice o1 a q1, .slice (some ⟨b0, off0, none⟩) 1 q2] 25 (0, 0) _ 2 (by simp)
    obtain ⟨ι, K, hne, hkb, hks⟩ := kept_family W
    have KB := Lib.hid hkb
    have kS := hks _ (Below.refl _ _).drew
    have j2 : ∀ i, (K i).cell? ⟨w.heap.size, 2, none⟩ = some (.slice (some ⟨b0, off0, none⟩) 1 q2) := fun i => cell_later (hkb i) c2
    have x00 : ∀ i, (K i).cell? ⟨b0, off0, none⟩ = some (.int .i64 k0) := fun i => cell_later (hkb i) (cell_later HBW.out z00)
    have x01 : ∀ i, (K i).cell? ⟨b0, off0 + 1, none⟩ = some (.slice so0 n0 sq0) := fun i => cell_later (hkb i) (cell_later HBW.out z01)
    have x02 : ∀ i, (K i).cell? ⟨b0, off0 + 2, none⟩ = some (.slice lo0 r0 lq0) := fun i => cell_later (hkb i) (cell_later HBW.out z02)
    have HC0 := Lib.hid (fun i => calls_kept hkb hks (i := i) (hc0 (K i) (bel_then HBW.out (hkb i))))
    obtain ⟨m0, hm0⟩ : ∃ z, z = (k0 == 3) := ⟨_, rfl⟩
    have gm0 := hm0.symm
    obtain ⟨m1, hm1⟩ : ∃ z, z = (k0 == 4) := ⟨_, rfl⟩
    have gm1 := hm1.symm
    cases m0 with
    | true =>
      have HX := Lib.hid (show t = hold t0 true ++ ⟨#[42]⟩ by rw [hteq]; simp only [List.contains_cons, List.contains_nil, gm0, Bool.or_false, Bool.or_true, Bool.true_or, Bool.false_or])
      have HI0 := Lib.hid (fun i => calls_kept hkb hks (i := i) ((rin_any t0 true (K i) (by omega)).mono (fun e w' h => ⟨h.1, by rw [h.2]; exact Below.refl _ _⟩)))
      have hu0 : ¬ 9223372036854775807 < (hold t0 true).size + 1 := by have := hold_size t0 true; omega
      clear hte hsz hset hs hs2 hpr hr ht k ha hl hln ih hteq hkb hks c2 h1 hp0 hbl0 hpi0 hc0 hz0 hq0 ht0 hk0 hn0 hr0 z00 z01 z02 hm0 hm1
      go_enter Tryz.func29, Tryz.ntmps29
      go_upto_region 12 with (fail)
      rw [← hW]
      clear hW
      refine region_kept K (by kernel_rfl) (by kernel_rfl) kS ?_
      repeat (go_big_quiet_step (with_reducible first | exact HC0.out _ | exact HI0.out _))
      refine wpQuiet_nil ?_
      rintro _ ⟨iw, rfl⟩
      have HB6 := Lib.hid (bel_then HBW.out (KB.out iw))
      go_wp2_with fail
      go_ret
      exact ⟨by rw [HX.out]; rfl, HB6.out⟩
    | false =>
      have HX := Lib.hid (show t = hold t0 m1 ++ ⟨#[42]⟩ by rw [hteq]; simp only [List.contains_cons, List.contains_nil, gm0, gm1, Bool.or_false, Bool.or_true, Bool.true_or, Bool.false_or])
      have HI0 := Lib.hid (fun i => calls_kept hkb hks (i := i) ((rin_any t0 m1 (K i) (by omega)).mono (fun e w' h => ⟨h.1, by rw [h.2]; exact Below.refl _ _⟩)))
      have hu0 : ¬ 9223372036854775807 < (hold t0 m1).size + 1 := by have := hold_size t0 m1; omega
      clear hte hsz hset hs hs2 hpr hr ht k ha hl hln ih hteq hkb hks c2 h1 hp0 hbl0 hpi0 hc0 hz0 hq0 ht0 hk0 hn0 hr0 z00 z01 z02 hm0 hm1
      go_enter Tryz.func29, Tryz.ntmps29
      go_upto_region 12 with (fail)
      rw [← hW]
      clear hW
      refine region_kept K (by kernel_rfl) (by kernel_rfl) kS ?_
      repeat (go_big_quiet_step (with_reducible first | exact HC0.out _ | exact HI0.out _))
      refine wpQuiet_nil ?_
      rintro _ ⟨iw, rfl⟩
      have HB6 := Lib.hid (bel_then HBW.out (KB.out iw))
      go_wp2_with fail
      go_ret
      exact ⟨by rw [HX.out]; rfl, HB6.out⟩
theorem re_all : ∀ N, ReIH N
  | 0 => by intro e sv lv w hs; have := RE.size_pos e; omega
  | N + 1 => re_step N (re_all N)
set_option maxHeartbeats 4000000 in
set_option maxRecDepth 100000 in
/-- goboref11.PrintRe -/
theorem rPrintRe_any (e : RE) (sv lv : Value) (w : World) (h9 : e.size ≤ 1000) (h : ReIs w e sv lv) (hf : e.Fit) :
    Calls Tryz.prog 12 #[.agg #[.int .i64 e.kind, sv, lv]] w fun x w' => x = .returned (.string (reP e)) ∧ Below w.heap.size w w' := by
  have hm := fun w' (hb : Below w.heap.size w w') => rMay_any w e sv lv w' h9 hf h hb
  have hx := fun (hm : e.may = true) w' (hb : Below w.heap.size w w') => re_all e.size e sv lv w' (Nat.le_refl _) h9 (may_prt hm).2 (h.moved hb)
  have hp : reP e = if e.may = true then e.text else ⟨#[]⟩ := rfl
  obtain ⟨⟨o1, q1, rfl⟩, ⟨o2, q2, rfl⟩⟩ := h.form
  obtain ⟨m, hmm⟩ : ∃ m, m = e.may := ⟨_, rfl⟩
  rw [← hmm] at hm hx hp
  obtain ⟨k, hk⟩ : ∃ k, k = e.kind := ⟨_, rfl⟩
  obtain ⟨a, ha⟩ : ∃ a, a = e.set.length := ⟨_, rfl⟩
  obtain ⟨b, hb⟩ : ∃ b, b = e.parts.length := ⟨_, rfl⟩
  rw [← hk, ← ha, ← hb] at hm hx ⊢
  have HM := Lib.hid hm
  have HX := Lib.hid hx
  have HP := Lib.hid hp
  clear hm hx hp hmm hk ha hb h hf h9
  cases m with
  | false =>
    go_enter Tryz.func12, Tryz.ntmps12
    go_wp2_with fail
    refine (HM.out _ (bel_new (Below.refl _ _) _)).mono ?_
    rintro x w2 ⟨rfl, hb2⟩
    have HB2 := Lib.hid (bel_then (bel_new (Below.refl w.heap.size w) _) hb2)
    clear hb2
    go_wp2_with fail
    go_ret
    exact ⟨by rw [HP.out]; rfl, HB2.out⟩
  | true =>
    go_enter Tryz.func12, Tryz.ntmps12
    go_wp2_with fail
    refine (HM.out _ (bel_new (Below.refl _ _) _)).mono ?_
    rintro x w2 ⟨rfl, hb2⟩
    have HB2 := Lib.hid (bel_then (bel_new (Below.refl w.heap.size w) _) hb2)
    obtain ⟨c0, c1, c2⟩ := cell3_of (box_kept hb2)
    clear hb2
    go_wp2_with fail
    refine (HX.out trivial _ HB2.out).mono ?_
    rintro x w3 ⟨rfl, hb3⟩
    have HB3 := Lib.hid (bel_then HB2.out hb3)
    clear hb3
    go_wp2_with fail
    go_ret
    exact ⟨by rw [HP.out]; rfl, HB3.out⟩
end Go.Proofs.YtbanmggkfpnalaaGreatDoor

set_option linter.unusedVariables false
set_option linter.unusedSimpArgs false
namespace Go.Proofs.YtbanmggkfpnalaaGreatDoor
open Go.RowKit Ru

set_option maxHeartbeats 4000000 in
set_option maxRecDepth 100000 in
theorem printRes_walk (l : List (Int × Int)) (v : Value) (e : RE) (sv lv : Value) (w : World) (hr : Row w v l.length (flatK .i32 l)) (hz : i32s l) (he : ReIs w e sv lv) (hf : e.Raw) (hT : TZ w) :
    Calls Tryz.prog 3 #[v, .agg #[.int .i64 e.kind, sv, lv]] w fun x w' => x = .returned (.bool true) ∧ Below w.heap.size w w' := by
  have hr0 := hr
  obtain ⟨o, c, rfl, hc, hm, hrr⟩ := hr
  obtain ⟨⟨o1, q1, rfl⟩, ⟨o2, q2, rfl⟩⟩ := he.form
  have HTO := Lib.hid (fun w' (hb : Below w.heap.size w w') => told14_any w' (hT.moved hb))
  have hfw := fun w' (hb : Below w.heap.size w w') => few_any e _ _ w' (he.moved hb) hf
  have hno := fun w' (hb : Below w.heap.size w w') (hn : l.length ≤ 5000) => refNorm_any l _ w' (hr0.below hb) hz hn
  have hps := fun v' w' (hb : Below w.heap.size w w') (hn : l.length ≤ 5000) (hr : Row w' v' (nrm l).length (flatK .i32 (nrm l))) => prSet_any (nrm l) v' w' hr (may_rok ((may_nrm _).2 (nrm_norm l).symm)) (by have := nrm_le l; omega) (hT.moved hb)
  have hrs := fun v' w' (hn : l.length ≤ 5000) (hr : Row w' v' (nrm l).length (flatK .i32 (nrm l))) => rset_any (nrm l) v' w' hr (may_rok ((may_nrm _).2 (nrm_norm l).symm)) (may_le ((may_nrm _).2 (nrm_norm l).symm)) (by have := nrm_le l; omega)
  have hpr := fun w' (hb : Below w.heap.size w w') (hf : e.size ≤ 200 ∧ e.Fit) => prRe_any e _ _ w' (he.moved hb) hf.2 (hT.moved hb)
  have hrp := fun w' (hb : Below w.heap.size w w') (hf : e.size ≤ 200 ∧ e.Fit) => rPrintRe_any e _ _ w' (by omega) (he.moved hb) hf.2
  obtain ⟨n, hn⟩ : ∃ n, n = l.length := ⟨_, rfl⟩
  obtain ⟨k, hk⟩ : ∃ n, n = e.kind := ⟨_, rfl⟩
  obtain ⟨a, ha⟩ : ∃ n, n = e.set.length := ⟨_, rfl⟩
  obtain ⟨b, hb⟩ : ∃ n, n = e.parts.length := ⟨_, rfl⟩
  obtain ⟨S, hS⟩ : ∃ n, n = setB (nrm l) := ⟨_, rfl⟩
  obtain ⟨E, hE⟩ : ∃ n, n = reP e := ⟨_, rfl⟩
  rw [← hS] at hps hrs
  rw [← hk, ← ha, ← hb] at hfw hpr hrp
  rw [← hE] at hpr hrp
  rw [← hn] at hno hps hrs ⊢
  rw [← hk, ← ha, ← hb]
  have HFW := Lib.hid hfw
  have HNO := Lib.hid hno
  have HPS := Lib.hid hps
  have HRS := Lib.hid hrs
  have HPR := Lib.hid hpr
  have HRP := Lib.hid hrp
  clear hfw hno hps hrs hpr hrp hr0 hrr hz he hT hk ha hb hS hE hf hn
  have eS : (S == S) = true := by cases S; rename_i d; show (d == d) = true; simp
  have eE : (E == E) = true := by cases E; rename_i d; show (d == d) = true; simp
  by_cases h30 : 30 < n
  · have d1 : decide ((30 : Int) < (n : Int)) = true := by simp; omega
    have d2 : decide (30 < n) = true := by simpa using h30
    clear h30
    go_enter Tryz.func3, Tryz.ntmps3
    go_wp2_with fail
    refine (HTO.out _ (bel_new (Below.refl _ _) _)).mono ?_
    rintro x w2 ⟨rfl, hb2⟩
    have HB2 := Lib.hid (bel_then (bel_new (Below.refl w.heap.size w) _) hb2)
    clear hb2
    go_wp2_with fail
    go_ret
    exact ⟨rfl, HB2.out⟩
  have d1 : decide ((30 : Int) < (n : Int)) = false := by simp; omega
  have d2 : decide (30 < n) = false := by simpa using h30
  have HN := Lib.hid (show n ≤ 5000 by omega)
  clear h30
  go_enter Tryz.func3, Tryz.ntmps3
  go_wp2_with fail
  refine (HFW.out _ (bel_new (Below.refl _ _) _)).mono ?_
  rintro x w2 ⟨⟨bf, rfl, hbf⟩, hb2⟩
  obtain ⟨c0, c1, c2⟩ := cell3_of (box_kept hb2)
  have HB2 := Lib.hid (bel_then (bel_new (Below.refl w.heap.size w) _) hb2)
  have HBF := Lib.hid hbf
  clear hb2 hbf
  cases bf with
  | false =>
    go_wp2_with fail
    refine (HTO.out _ HB2.out).mono ?_
    rintro x w3 ⟨rfl, hb3⟩
    have HB3 := Lib.hid (bel_then HB2.out hb3)
    clear hb3
    go_wp2_with fail
    go_ret
    exact ⟨rfl, HB3.out⟩
  | true =>
    have HF := Lib.hid (HBF.out rfl)
    go_wp2_with fail
    refine (HNO.out _ HB2.out HN.out).mono ?_
    rintro x w3 ⟨u, rfl, hou, hb3⟩
    have HRU := Lib.hid (Row.owned hou)
    have HB3 := Lib.hid (bel_then HB2.out hb3)
    replace c0 := cell_later hb3 c0
    replace c1 := cell_later hb3 c1
    replace c2 := cell_later hb3 c2
    clear hb3 hou
    obtain ⟨ι, K, hne, hkb, hks⟩ := kept_family w3
    have KB := Lib.hid hkb
    have kS := hks _ (Below.refl _ _).drew
    have HK1 := Lib.hid (fun i => calls_kept hkb hks (i := i) (HTO.out (K i) (bel_then HB3.out (hkb i))))
    have HK2 := Lib.hid (fun i => calls_kept hkb hks (i := i) (HPS.out u (K i) (bel_then HB3.out (hkb i)) HN.out (HRU.out.below (hkb i))))
    have HK3 := Lib.hid (fun i => calls_kept hkb hks (i := i) (HRS.out u (K i) HN.out (HRU.out.below (hkb i))))
    have HK4 := Lib.hid (fun i => calls_kept hkb hks (i := i) (HPR.out (K i) (bel_then HB3.out (hkb i)) HF.out))
    have HK5 := Lib.hid (fun i => calls_kept hkb hks (i := i) (HRP.out (K i) (bel_then HB3.out (hkb i)) HF.out))
    have j0 : ∀ i, (K i).cell? ⟨w.heap.size, 0, none⟩ = some (.int .i64 k) := fun i => cell_later (hkb i) c0
    have j1 : ∀ i, (K i).cell? ⟨w.heap.size, 1, none⟩ = some (.slice o1 a q1) := fun i => cell_later (hkb i) c1
    have j2 : ∀ i, (K i).cell? ⟨w.heap.size, 2, none⟩ = some (.slice o2 b q2) := fun i => cell_later (hkb i) c2
    clear hkb hks c0 c1 c2
    go_upto_region 4 with (fail)
    refine region_kept K (by kernel_rfl) (by kernel_rfl) kS ?_
    repeat (go_big_quiet_step (with_reducible first | exact HK1.out _ | exact HK2.out _ | exact HK3.out _ | exact HK4.out _ | exact HK5.out _))
    refine wpQuiet_nil ?_
    rintro _ ⟨iw, rfl⟩
    have HB7 := Lib.hid (bel_then HB3.out (KB.out iw))
    go_wp2_with fail
    go_ret
    exact ⟨rfl, HB7.out⟩
end Go.Proofs.YtbanmggkfpnalaaGreatDoor
