/- The document's list, PrintPat: patterns as texts. -/
import Derived.Test.YtbanmggkfpnalaaGreatDoorRefRe
import Derived.Test.YtbanmggkfpnalaaGreatDoorPrPatA
set_option linter.unusedVariables false
set_option linter.unusedSimpArgs false
namespace Go.Proofs.YtbanmggkfpnalaaGreatDoor
open Go.RowKit Ru

theorem joinTail_snoc (sep : List UInt8) (r : List (List UInt8)) (x : List UInt8) : Lib.joinTail sep (r ++ [x]) = Lib.joinTail sep r ++ (sep ++ x) := by simp [Lib.joinTail]
theorem joinB_one (x : ByteArray) : joinB [x] = x := by
  unfold joinB
  apply ByteArray.ext
  simp [Lib.join_one]
theorem joinB_snoc (l : List ByteArray) (x : ByteArray) (h : 0 < l.length) : joinB (l ++ [x]) = (joinB l ++ ⟨#[32]⟩) ++ x := by
  cases l with
  | nil => simp at h
  | cons a l =>
    unfold joinB
    apply ByteArray.ext
    simp only [List.cons_append, List.map_cons, List.map_append, List.map_nil, Lib.join_cons, joinTail_snoc]
    simp
theorem Shorts.take {l : List ByteArray} (h : Shorts l) (k : Nat) : Shorts (l.take k) := ⟨by have := h.1; rw [List.length_take]; omega, fun x hx => h.2 x (List.mem_of_mem_take hx)⟩
set_option maxHeartbeats 4000000 in
set_option maxRecDepth 100000 in
theorem rlist_any (v : Value) (l : List ByteArray) (w : World) (hr : Row w v l.length (strs l)) (hs : Shorts l) :
    Calls Tryz.prog 42 #[v] w fun e w' => e = .returned (.string (joinB l)) ∧ w' = w := by
  obtain ⟨o, c, rfl, hc, hm, hrr⟩ := hr
  have HCE := Lib.hid (show ∀ (k : Nat) (x : ByteArray), l[k]? = some x → ∃ b off, o = some ⟨b, off, none⟩ ∧ w.cell? ⟨b, off + k, none⟩ = some (.string x) from fun k x hx => by
    have hk := (List.getElem?_eq_some_iff.1 hx).1
    rcases hrr with ⟨h0, -⟩ | ⟨b, off, rfl, hlt, hcell⟩
    · omega
    · exact ⟨b, off, rfl, hcell _ _ (strs_get hx)⟩)
  obtain ⟨n, hnl⟩ : ∃ n, n = l.length := ⟨_, rfl⟩
  have HM := Lib.hid hnl
  have HS := Lib.hid hs
  have hn9 : n ≤ 1000 := by have := hs.1; omega
  rw [← hnl]
  clear hrr hc hm hnl hs
  go_enter Tryz.func42, Tryz.ntmps42
  go_upto_region 3 with (fail)
  go_loopg [3, 4] n (fun g s3 s4 wx => ∃ k : Nat, k + g = n ∧ s4 = .int .i64 (k : Int) ∧ s3 = .string (joinB (l.take k)) ∧ wx = w)
  case atStart => exact ⟨0, by omega, rfl, rfl, rfl⟩
  case round =>
    obtain ⟨k, hkg, rfl, rfl, e⟩ := hrel
    have e2 := e.symm
    subst e2
    have hCs := (HS.out.take k).join
    have HTN := Lib.hid (fun x (hx : l[k]? = some x) => (show l.take (k + 1) = l.take k ++ [x] by rw [List.take_add_one, hx]; rfl))
    obtain ⟨C, hC⟩ : ∃ C, C = joinB (l.take k) := ⟨_, rfl⟩
    rw [← hC] at hCs ⊢
    have HC := Lib.hid hC
    clear hC
    cases gk with
    | zero =>
      obtain rfl : k = n := by omega
      have x1 : decide ((k : Int) < (k : Int)) = false := by simp
      have x2 : decide (k < k) = false := by simp
      have HY := Lib.hid (show joinB l = C by rw [HC.out, List.take_of_length_le (by have := HM.out; omega)])
      go_wp2_with fail
      go_ret
      exact ⟨by rw [HY.out]; rfl, rfl⟩
    | succ g =>
      have hk : k < n := by omega
      obtain ⟨x, hx⟩ : ∃ x, l[k]? = some x := ⟨_, List.getElem?_eq_getElem (by have := HM.out; omega)⟩
      obtain ⟨b, off, rfl, z0⟩ := HCE.out k x hx
      have hxs := HS.out.2 x (List.mem_of_getElem? hx)
      have x1 : decide ((k : Int) < (n : Int)) = true := by simp; omega
      have x2 : decide (k < n) = true := by simpa using hk
      have hk1 : (0 : Int) ≤ (k : Int) := by omega
      have hk2 : (k : Int) < (n : Int) := by omega
      have HTK := Lib.hid (HTN.out x hx)
      have hu1 : ¬ 9223372036854775807 < C.size + x.size := by omega
      have hu2 : ¬ 9223372036854775807 < C.size + 1 := by omega
      have hu3 : ¬ 9223372036854775807 < C.size + 1 + x.size := by omega
      clear hx
      by_cases k0 : k = 0
      · subst k0
        have HX := Lib.hid (show joinB (l.take (0 + 1)) = C ++ x by
          rw [HC.out, HTK.out, List.take_zero, List.nil_append, joinB_one]
          apply ByteArray.ext
          simp [joinB, Lib.join_nil])
        have y1 : decide ((0 : Int) < 0) = false := by decide
        have z0' := z0
        rw [Nat.add_zero] at z0'
        go_wp2_with fail
        go_roundg g
        case measure => omega
        case rel => exact ⟨0 + 1, by omega, by simp, by rw [HX.out], rfl⟩
      · have HX := Lib.hid (show joinB (l.take (k + 1)) = (C ++ ⟨#[32]⟩) ++ x by rw [HC.out, HTK.out, joinB_snoc _ _ (by rw [List.length_take]; have := HM.out; omega)])
        have y1 : decide ((0 : Int) < (k : Int)) = true := by simp; omega
        have y2 : decide (0 < k) = true := by simp; omega
        clear k0
        go_wp2_with fail
        go_roundg g
        case measure => omega
        case rel => exact ⟨k + 1, by omega, by simp, by rw [HX.out], rfl⟩
def PatIH (N : Nat) : Prop := ∀ (e : PT) (nv ev lv : Value) (w : World), e.size ≤ N → e.size ≤ 1000 → e.Okt → PtIs w e nv ev lv →
  Calls Tryz.prog 43 #[.agg #[.int .i64 e.kind, nv, ev, lv]] w fun x w' => x = .returned (.string e.text) ∧ Below w.heap.size w w'
theorem ptPart {w : World} {e : PT} {nv ev lv : Value} (h : PtIs w e nv ev lv) {i : Nat} {p : PT} (hp : e.parts[i]? = some p) :
    ∃ b off cap n' e' l', lv = .slice (some ⟨b, off, none⟩) e.parts.length cap ∧ b < w.heap.size ∧ w.cell? ⟨b, off + i * 4, none⟩ = some (.int .i64 p.kind) ∧ w.cell? ⟨b, off + i * 4 + 1, none⟩ = some n' ∧ w.cell? ⟨b, off + i * 4 + 2, none⟩ = some e' ∧ w.cell? ⟨b, off + i * 4 + 3, none⟩ = some l' ∧ PtIs w p n' e' l' := by
  obtain ⟨o, cap, k, no, nn, nc, eo, en, ec, lo, ln, lc, rfl, hall⟩ := h.row4
  obtain ⟨hk, hpt, b, off, rfl, hb, z0, z1, z2, z3⟩ := hall i p hp
  exact ⟨b, off, cap, _, _, _, rfl, hb, by rw [← hk]; exact z0, z1, z2, z3, hpt⟩
set_option maxHeartbeats 16000000 in
set_option maxRecDepth 100000 in
theorem rpat_step (N : Nat) (ih : PatIH N) : PatIH (N + 1) := by
  intro e nv ev lv w hs hs2 hpr hr
  have hte := PT.text_eq e
  have hsz := pt_size e.size e (Nat.le_refl _) hpr
  have hns := hr.names
  have hes := hr.ends
  obtain ⟨⟨o1, q1, rfl⟩, ⟨o3, q3, rfl⟩, ⟨o2, q2, rfl⟩⟩ := hr.form
  obtain ⟨t, ht⟩ : ∃ t, t = e.text := ⟨_, rfl⟩
  rw [← ht] at hte hsz ⊢
  rcases PT.shp_cases hpr.shp' with k | k | k | ⟨k, h1⟩ | ⟨k, h1⟩ | ⟨k, h1⟩ | ⟨k, h1⟩
  · rw [k] at hte ⊢
    obtain ⟨a, ha⟩ : ∃ a, a = e.names.length := ⟨_, rfl⟩
    obtain ⟨c, hc⟩ : ∃ c, c = e.ends.length := ⟨_, rfl⟩
    obtain ⟨b, hb⟩ : ∃ b, b = e.parts.length := ⟨_, rfl⟩
    rw [← ha, ← hb, ← hc]
    have HX := Lib.hid (show t = ⟨#[40, 41]⟩ by rw [hte]; rfl)
    clear hte hsz hns hes hs hs2 hpr hr ht k ha hb hc ih
    go_enter Tryz.func43, Tryz.ntmps43
    go_wp2_with fail
    go_ret
    exact ⟨by rw [HX.out]; rfl, by repeat (first | exact Below.refl _ _ | (refine bel_new ?_ _))⟩
  · rw [k] at hte ⊢
    obtain ⟨a, ha⟩ : ∃ a, a = e.names.length := ⟨_, rfl⟩
    obtain ⟨c, hc⟩ : ∃ c, c = e.ends.length := ⟨_, rfl⟩
    obtain ⟨b, hb⟩ : ∃ b, b = e.parts.length := ⟨_, rfl⟩
    rw [← ha, ← hb, ← hc]
    have HX := Lib.hid (show t = ⟨#[95]⟩ by rw [hte]; rfl)
    clear hte hsz hns hes hs hs2 hpr hr ht k ha hb hc ih
    go_enter Tryz.func43, Tryz.ntmps43
    go_wp2_with fail
    go_ret
    exact ⟨by rw [HX.out]; rfl, by repeat (first | exact Below.refl _ _ | (refine bel_new ?_ _))⟩
  · have hps := fun w' (hb : Below w.heap.size w w') => rlist_any _ e.names w' (hns.below hb) hpr.ns
    have hj := hpr.ns.join
    rw [k] at hte ⊢
    obtain ⟨J, hJ⟩ : ∃ J, J = joinB e.names := ⟨_, rfl⟩
    rw [← hJ] at hps hj
    have HX := Lib.hid (show t = (⟨#[123]⟩ ++ J) ++ ⟨#[125]⟩ by rw [hte, hJ]; rfl)
    obtain ⟨a, ha⟩ : ∃ a, a = e.names.length := ⟨_, rfl⟩
    obtain ⟨c, hc⟩ : ∃ c, c = e.ends.length := ⟨_, rfl⟩
    obtain ⟨b, hb⟩ : ∃ b, b = e.parts.length := ⟨_, rfl⟩
    rw [← ha] at hps
    rw [← ha, ← hb, ← hc]
    have HP := Lib.hid hps
    have hu1 : ¬ 9223372036854775807 < 1 + J.size := by omega
    have hu2 : ¬ 9223372036854775807 < 1 + J.size + 1 := by omega
    clear hte hsz hns hes hs hs2 hpr hr ht k ha hb hc ih hps hj hJ
    go_enter Tryz.func43, Tryz.ntmps43
    go_wp2_with fail
    refine (HP.out _ (bel_new (Below.refl _ _) _)).mono ?_
    rintro x w2 ⟨rfl, rfl⟩
    go_wp2_with fail
    go_ret
    exact ⟨by rw [HX.out]; rfl, bel_new (Below.refl _ _) _⟩
  · obtain ⟨y0, hl⟩ : ∃ y0, e.parts = [y0] := List.length_eq_one_iff.1 h1
    have hln : e.parts.length = 1 := by rw [hl]; rfl
    have hp0 : e.parts[0]? = some y0 := by rw [hl]; rfl
    obtain ⟨b0, off0, cap0, n0, e0, l0, hlv0, hbl0, z00, z01, z02, z03, hpi0⟩ := ptPart hr hp0
    cases hlv0
    simp only [Nat.zero_mul, Nat.one_mul, Nat.add_zero, Nat.add_assoc, Nat.reduceAdd] at z00 z01 z02 z03
    have hc0 := fun w' hb => ih y0 n0 e0 l0 w' (by have := PT.size_part hp0; omega) (by have := PT.size_part hp0; omega) (hpr.part hp0) (hpi0.moved (show Below w.heap.size w w' from hb))
    have hz0 := pt_size y0.size y0 (Nat.le_refl _) (hpr.part hp0)
    have hq0 := PT.size_part hp0
    obtain ⟨⟨no0, nq0, rfl⟩, ⟨eo0, eq0, rfl⟩, ⟨lo0, lq0, rfl⟩⟩ := hpi0.form
    obtain ⟨t0, ht0⟩ : ∃ z, z = y0.text := ⟨_, rfl⟩
    obtain ⟨k0, hk0⟩ : ∃ z, z = y0.kind := ⟨_, rfl⟩
    obtain ⟨a0, hn0⟩ : ∃ z, z = y0.names.length := ⟨_, rfl⟩
    obtain ⟨c0, he0⟩ : ∃ z, z = y0.ends.length := ⟨_, rfl⟩
    obtain ⟨r0, hr0⟩ : ∃ z, z = y0.parts.length := ⟨_, rfl⟩
    have hps := fun w' (hb : Below w.heap.size w w') => rlist_any _ e.names w' (hns.below hb) hpr.ns
    have hj := hpr.ns.join
    have hpe := fun w' (hb : Below w.heap.size w w') => rlist_any _ e.ends w' (hes.below hb) hpr.es
    have hje := hpr.es.join
    have hteq : t = ((((((⟨#[60]⟩ ++ joinB e.names) ++ ⟨#[58]⟩) ++ hold y0.text (([] : List Int).contains y0.kind)) ++ ⟨#[58]⟩) ++ joinB e.ends) ++ ⟨#[62]⟩) := by rw [hte, k, hl]; rfl
    rw [hln]
    rw [k]
    obtain ⟨a, ha⟩ : ∃ a, a = e.names.length := ⟨_, rfl⟩
    obtain ⟨c, hc⟩ : ∃ c, c = e.ends.length := ⟨_, rfl⟩
    rw [← ha, ← hc]
    obtain ⟨J, hJ⟩ : ∃ J, J = joinB e.names := ⟨_, rfl⟩
    obtain ⟨JE, hJE⟩ : ∃ J, J = joinB e.ends := ⟨_, rfl⟩
    rw [← hJ] at hps hj
    rw [← hJE] at hpe hje
    rw [← ha] at hps
    rw [← hc] at hpe
    rw [← hJ, ← hJE] at hteq
    rw [← ht0] at hteq hc0 hz0
    rw [← hk0] at hteq hc0 z00
    rw [← hn0] at hc0 z01
    rw [← he0] at hc0 z02
    rw [← hr0] at hc0 z03
    rw [hln] at *
    obtain ⟨W, hW⟩ : ∃ W, W = w.alloc (.cells #[.int .i64 3, .slice o1 a q1, .slice o3 c q3, .slice (some ⟨b0, off0, none⟩) 1 q2] 47) := ⟨_, rfl⟩
    have HBW := Lib.hid (show Below w.heap.size w W by rw [hW]; exact (Below.refl _ _).alloc (Nat.le_refl _) _)
    have u1 : W.cell? ⟨w.heap.size, 1, none⟩ = some (.slice o1 a q1) := by rw [hW]; exact Joins.cell_alloc_mark_at _ #[.int .i64 3, .slice o1 a q1, .slice o3 c q3, .slice (some ⟨b0, off0, none⟩) 1 q2] 47 (0, 0) _ 1 (by simp)
    have u2 : W.cell? ⟨w.heap.size, 2, none⟩ = some (.slice o3 c q3) := by rw [hW]; exact Joins.cell_alloc_mark_at _ #[.int .i64 3, .slice o1 a q1, .slice o3 c q3, .slice (some ⟨b0, off0, none⟩) 1 q2] 47 (0, 0) _ 2 (by simp)
    have u3 : W.cell? ⟨w.heap.size, 3, none⟩ = some (.slice (some ⟨b0, off0, none⟩) 1 q2) := by rw [hW]; exact Joins.cell_alloc_mark_at _ #[.int .i64 3, .slice o1 a q1, .slice o3 c q3, .slice (some ⟨b0, off0, none⟩) 1 q2] 47 (0, 0) _ 3 (by simp)
    obtain ⟨ι, K, hne, hkb, hks⟩ := kept_family W
    have KB := Lib.hid hkb
    have kS := hks _ (Below.refl _ _).drew
    have j1 : ∀ i, (K i).cell? ⟨w.heap.size, 1, none⟩ = some (.slice o1 a q1) := fun i => cell_later (hkb i) u1
    have j2 : ∀ i, (K i).cell? ⟨w.heap.size, 2, none⟩ = some (.slice o3 c q3) := fun i => cell_later (hkb i) u2
    have j3 : ∀ i, (K i).cell? ⟨w.heap.size, 3, none⟩ = some (.slice (some ⟨b0, off0, none⟩) 1 q2) := fun i => cell_later (hkb i) u3
    have x00 : ∀ i, (K i).cell? ⟨b0, off0, none⟩ = some (.int .i64 k0) := fun i => cell_later (hkb i) (cell_later HBW.out z00)
    have x01 : ∀ i, (K i).cell? ⟨b0, off0 + 1, none⟩ = some (.slice no0 a0 nq0) := fun i => cell_later (hkb i) (cell_later HBW.out z01)
    have x02 : ∀ i, (K i).cell? ⟨b0, off0 + 2, none⟩ = some (.slice eo0 c0 eq0) := fun i => cell_later (hkb i) (cell_later HBW.out z02)
    have x03 : ∀ i, (K i).cell? ⟨b0, off0 + 3, none⟩ = some (.slice lo0 r0 lq0) := fun i => cell_later (hkb i) (cell_later HBW.out z03)
    have HC0 := Lib.hid (fun i => calls_kept hkb hks (i := i) (hc0 (K i) (bel_then HBW.out (hkb i))))
    have HIJ := Lib.hid (fun i => calls_kept hkb hks (i := i) ((hps (K i) (bel_then HBW.out (hkb i))).mono (fun e w' h => ⟨h.1, by rw [h.2]; exact Below.refl _ _⟩)))
    have HIE := Lib.hid (fun i => calls_kept hkb hks (i := i) ((hpe (K i) (bel_then HBW.out (hkb i))).mono (fun e w' h => ⟨h.1, by rw [h.2]; exact Below.refl _ _⟩)))
    · have HX := Lib.hid (show t = ((((((⟨#[60]⟩ ++ J) ++ ⟨#[58]⟩) ++ t0) ++ ⟨#[58]⟩) ++ JE) ++ ⟨#[62]⟩) by rw [hteq]; rfl)
      have hu0 : ¬ 9223372036854775807 < 1 + J.size := by omega
      have hu1 : ¬ 9223372036854775807 < 1 + J.size + 1 := by omega
      have hu2 : ¬ 9223372036854775807 < 1 + J.size + 1 + t0.size := by omega
      have hu3 : ¬ 9223372036854775807 < 1 + J.size + 1 + t0.size + 1 := by omega
      have hu4 : ¬ 9223372036854775807 < 1 + J.size + 1 + t0.size + 1 + JE.size := by omega
      have hu5 : ¬ 9223372036854775807 < 1 + J.size + 1 + t0.size + 1 + JE.size + 1 := by omega
      clear hte hsz hns hes hs hs2 hpr hr ht k ha hc hl hln ih hteq hkb hks u1 u2 u3 h1 hp0 hbl0 hpi0 hc0 hz0 hq0 ht0 hk0 hn0 he0 hr0 z00 z01 z02 z03 hps hpe hj hje hJ hJE
      go_enter Tryz.func43, Tryz.ntmps43
      go_upto_region 9 with (fail)
      rw [← hW]
      clear hW
      refine region_kept K (by kernel_rfl) (by kernel_rfl) kS ?_
      repeat (go_big_quiet_step (with_reducible first | exact HC0.out _ | exact HIJ.out _ | exact HIE.out _))
      refine wpQuiet_nil ?_
      rintro _ ⟨iw, rfl⟩
      have HB6 := Lib.hid (bel_then HBW.out (KB.out iw))
      go_wp2_with fail
      go_ret
      exact ⟨by rw [HX.out]; rfl, HB6.out⟩
  · obtain ⟨y0, y1, hl⟩ : ∃ y0 y1, e.parts = [y0, y1] := len_two h1
    have hln : e.parts.length = 2 := by rw [hl]; rfl
    have hp0 : e.parts[0]? = some y0 := by rw [hl]; rfl
    obtain ⟨b0, off0, cap0, n0, e0, l0, hlv0, hbl0, z00, z01, z02, z03, hpi0⟩ := ptPart hr hp0
    have hp1 : e.parts[1]? = some y1 := by rw [hl]; rfl
    obtain ⟨b1, off1, cap1, n1, e1, l1, hlv1, hbl1, z10, z11, z12, z13, hpi1⟩ := ptPart hr hp1
    rw [hlv0] at hlv1
    cases hlv1
    cases hlv0
    simp only [Nat.zero_mul, Nat.one_mul, Nat.add_zero, Nat.add_assoc, Nat.reduceAdd] at z00 z01 z02 z03 z10 z11 z12 z13
    have hc0 := fun w' hb => ih y0 n0 e0 l0 w' (by have := PT.size_part hp0; omega) (by have := PT.size_part hp0; omega) (hpr.part hp0) (hpi0.moved (show Below w.heap.size w w' from hb))
    have hz0 := pt_size y0.size y0 (Nat.le_refl _) (hpr.part hp0)
    have hq0 := PT.size_part hp0
    obtain ⟨⟨no0, nq0, rfl⟩, ⟨eo0, eq0, rfl⟩, ⟨lo0, lq0, rfl⟩⟩ := hpi0.form
    obtain ⟨t0, ht0⟩ : ∃ z, z = y0.text := ⟨_, rfl⟩
    obtain ⟨k0, hk0⟩ : ∃ z, z = y0.kind := ⟨_, rfl⟩
    obtain ⟨a0, hn0⟩ : ∃ z, z = y0.names.length := ⟨_, rfl⟩
    obtain ⟨c0, he0⟩ : ∃ z, z = y0.ends.length := ⟨_, rfl⟩
    obtain ⟨r0, hr0⟩ : ∃ z, z = y0.parts.length := ⟨_, rfl⟩
    have hc1 := fun w' hb => ih y1 n1 e1 l1 w' (by have := PT.size_part hp1; omega) (by have := PT.size_part hp1; omega) (hpr.part hp1) (hpi1.moved (show Below w.heap.size w w' from hb))
    have hz1 := pt_size y1.size y1 (Nat.le_refl _) (hpr.part hp1)
    have hq1 := PT.size_part hp1
    obtain ⟨⟨no1, nq1, rfl⟩, ⟨eo1, eq1, rfl⟩, ⟨lo1, lq1, rfl⟩⟩ := hpi1.form
    obtain ⟨t1, ht1⟩ : ∃ z, z = y1.text := ⟨_, rfl⟩
    obtain ⟨k1, hk1⟩ : ∃ z, z = y1.kind := ⟨_, rfl⟩
    obtain ⟨a1, hn1⟩ : ∃ z, z = y1.names.length := ⟨_, rfl⟩
    obtain ⟨c1, he1⟩ : ∃ z, z = y1.ends.length := ⟨_, rfl⟩
    obtain ⟨r1, hr1⟩ : ∃ z, z = y1.parts.length := ⟨_, rfl⟩
    have hteq : t = (hold y0.text ([6].contains y0.kind) ++ ⟨#[32]⟩) ++ hold y1.text ([6, 5].contains y1.kind) := by rw [hte, k, hl]; rfl
    rw [hln]
    rw [k]
    obtain ⟨a, ha⟩ : ∃ a, a = e.names.length := ⟨_, rfl⟩
    obtain ⟨c, hc⟩ : ∃ c, c = e.ends.length := ⟨_, rfl⟩
    rw [← ha, ← hc]
    rw [← ht0] at hteq hc0 hz0
    rw [← hk0] at hteq hc0 z00
    rw [← hn0] at hc0 z01
    rw [← he0] at hc0 z02
    rw [← hr0] at hc0 z03
    rw [← ht1] at hteq hc1 hz1
    rw [← hk1] at hteq hc1 z10
    rw [← hn1] at hc1 z11
    rw [← he1] at hc1 z12
    rw [← hr1] at hc1 z13
    rw [hln] at *
    obtain ⟨W, hW⟩ : ∃ W, W = w.alloc (.cells #[.int .i64 5, .slice o1 a q1, .slice o3 c q3, .slice (some ⟨b0, off0, none⟩) 2 q2] 47) := ⟨_, rfl⟩
    have HBW := Lib.hid (show Below w.heap.size w W by rw [hW]; exact (Below.refl _ _).alloc (Nat.le_refl _) _)
    have u1 : W.cell? ⟨w.heap.size, 1, none⟩ = some (.slice o1 a q1) := by rw [hW]; exact Joins.cell_alloc_mark_at _ #[.int .i64 5, .slice o1 a q1, .slice o3 c q3, .slice (some ⟨b0, off0, none⟩) 2 q2] 47 (0, 0) _ 1 (by simp)
    have u2 : W.cell? ⟨w.heap.size, 2, none⟩ = some (.slice o3 c q3) := by rw [hW]; exact Joins.cell_alloc_mark_at _ #[.int .i64 5, .slice o1 a q1, .slice o3 c q3, .slice (some ⟨b0, off0, none⟩) 2 q2] 47 (0, 0) _ 2 (by simp)
    have u3 : W.cell? ⟨w.heap.size, 3, none⟩ = some (.slice (some ⟨b0, off0, none⟩) 2 q2) := by rw [hW]; exact Joins.cell_alloc_mark_at _ #[.int .i64 5, .slice o1 a q1, .slice o3 c q3, .slice (some ⟨b0, off0, none⟩) 2 q2] 47 (0, 0) _ 3 (by simp)
    obtain ⟨ι, K, hne, hkb, hks⟩ := kept_family W
    have KB := Lib.hid hkb
    have kS := hks _ (Below.refl _ _).drew
    have j1 : ∀ i, (K i).cell? ⟨w.heap.size, 1, none⟩ = some (.slice o1 a q1) := fun i => cell_later (hkb i) u1
    have j2 : ∀ i, (K i).cell? ⟨w.heap.size, 2, none⟩ = some (.slice o3 c q3) := fun i => cell_later (hkb i) u2
    have j3 : ∀ i, (K i).cell? ⟨w.heap.size, 3, none⟩ = some (.slice (some ⟨b0, off0, none⟩) 2 q2) := fun i => cell_later (hkb i) u3
    have x00 : ∀ i, (K i).cell? ⟨b0, off0, none⟩ = some (.int .i64 k0) := fun i => cell_later (hkb i) (cell_later HBW.out z00)
    have x01 : ∀ i, (K i).cell? ⟨b0, off0 + 1, none⟩ = some (.slice no0 a0 nq0) := fun i => cell_later (hkb i) (cell_later HBW.out z01)
    have x02 : ∀ i, (K i).cell? ⟨b0, off0 + 2, none⟩ = some (.slice eo0 c0 eq0) := fun i => cell_later (hkb i) (cell_later HBW.out z02)
    have x03 : ∀ i, (K i).cell? ⟨b0, off0 + 3, none⟩ = some (.slice lo0 r0 lq0) := fun i => cell_later (hkb i) (cell_later HBW.out z03)
    have HC0 := Lib.hid (fun i => calls_kept hkb hks (i := i) (hc0 (K i) (bel_then HBW.out (hkb i))))
    have x10 : ∀ i, (K i).cell? ⟨b0, off0 + 4, none⟩ = some (.int .i64 k1) := fun i => cell_later (hkb i) (cell_later HBW.out z10)
    have x11 : ∀ i, (K i).cell? ⟨b0, off0 + 5, none⟩ = some (.slice no1 a1 nq1) := fun i => cell_later (hkb i) (cell_later HBW.out z11)
    have x12 : ∀ i, (K i).cell? ⟨b0, off0 + 6, none⟩ = some (.slice eo1 c1 eq1) := fun i => cell_later (hkb i) (cell_later HBW.out z12)
    have x13 : ∀ i, (K i).cell? ⟨b0, off0 + 7, none⟩ = some (.slice lo1 r1 lq1) := fun i => cell_later (hkb i) (cell_later HBW.out z13)
    have HC1 := Lib.hid (fun i => calls_kept hkb hks (i := i) (hc1 (K i) (bel_then HBW.out (hkb i))))
    obtain ⟨m0, hm0⟩ : ∃ z, z = (k0 == 6) := ⟨_, rfl⟩
    have gm0 := hm0.symm
    obtain ⟨m1, hm1⟩ : ∃ z, z = (k1 == 6) := ⟨_, rfl⟩
    have gm1 := hm1.symm
    obtain ⟨m2, hm2⟩ : ∃ z, z = (k1 == 5) := ⟨_, rfl⟩
    have gm2 := hm2.symm
    cases m1 with
    | true =>
      have HX := Lib.hid (show t = (hold t0 m0 ++ ⟨#[32]⟩) ++ hold t1 true by rw [hteq]; simp only [List.contains_cons, List.contains_nil, gm0, gm1, Bool.or_false, Bool.or_true, Bool.true_or, Bool.false_or])
      have HI0 := Lib.hid (fun i => calls_kept hkb hks (i := i) ((rin_any t0 m0 (K i) (by omega)).mono (fun e w' h => ⟨h.1, by rw [h.2]; exact Below.refl _ _⟩)))
      have HI1 := Lib.hid (fun i => calls_kept hkb hks (i := i) ((rin_any t1 true (K i) (by omega)).mono (fun e w' h => ⟨h.1, by rw [h.2]; exact Below.refl _ _⟩)))
      have hu0 : ¬ 9223372036854775807 < (hold t0 m0).size + 1 := by have := hold_size t0 m0; omega
      have hu1 : ¬ 9223372036854775807 < (hold t0 m0).size + 1 + (hold t1 true).size := by have := hold_size t0 m0; have := hold_size t1 true; omega
      clear hte hsz hns hes hs hs2 hpr hr ht k ha hc hl hln ih hteq hkb hks u1 u2 u3 h1 hp0 hbl0 hpi0 hc0 hz0 hq0 ht0 hk0 hn0 he0 hr0 z00 z01 z02 z03 hp1 hbl1 hpi1 hc1 hz1 hq1 ht1 hk1 hn1 he1 hr1 z10 z11 z12 z13 hm0 hm1 hm2
      go_enter Tryz.func43, Tryz.ntmps43
      go_upto_region 11 with (fail)
      rw [← hW]
      clear hW
      refine region_kept K (by kernel_rfl) (by kernel_rfl) kS ?_
      repeat (go_big_quiet_step (with_reducible first | exact HC0.out _ | exact HC1.out _ | exact HI0.out _ | exact HI1.out _))
      refine wpQuiet_nil ?_
      rintro _ ⟨iw, rfl⟩
      have HB6 := Lib.hid (bel_then HBW.out (KB.out iw))
      go_wp2_with fail
      go_ret
      exact ⟨by rw [HX.out]; rfl, HB6.out⟩
    | false =>
      have HX := Lib.hid (show t = (hold t0 m0 ++ ⟨#[32]⟩) ++ hold t1 m2 by rw [hteq]; simp only [List.contains_cons, List.contains_nil, gm0, gm1, gm2, Bool.or_false, Bool.or_true, Bool.true_or, Bool.false_or])
      have HI0 := Lib.hid (fun i => calls_kept hkb hks (i := i) ((rin_any t0 m0 (K i) (by omega)).mono (fun e w' h => ⟨h.1, by rw [h.2]; exact Below.refl _ _⟩)))
      have HI1 := Lib.hid (fun i => calls_kept hkb hks (i := i) ((rin_any t1 m2 (K i) (by omega)).mono (fun e w' h => ⟨h.1, by rw [h.2]; exact Below.refl _ _⟩)))
      have hu0 : ¬ 9223372036854775807 < (hold t0 m0).size + 1 := by have := hold_size t0 m0; omega
      have hu1 : ¬ 9223372036854775807 < (hold t0 m0).size + 1 + (hold t1 m2).size := by have := hold_size t0 m0; have := hold_size t1 m2; omega
      clear hte hsz hns hes hs hs2 hpr hr ht k ha hc hl hln ih hteq hkb hks u1 u2 u3 h1 hp0 hbl0 hpi0 hc0 hz0 hq0 ht0 hk0 hn0 he0 hr0 z00 z01 z02 z03 hp1 hbl1 hpi1 hc1 hz1 hq1 ht1 hk1 hn1 he1 hr1 z10 z11 z12 z13 hm0 hm1 hm2
      go_enter Tryz.func43, Tryz.ntmps43
      go_upto_region 11 with (fail)
      rw [← hW]
      clear hW
      refine region_kept K (by kernel_rfl) (by kernel_rfl) kS ?_
      repeat (go_big_quiet_step (with_reducible first | exact HC0.out _ | exact HC1.out _ | exact HI0.out _ | exact HI1.out _))
      refine wpQuiet_nil ?_
      rintro _ ⟨iw, rfl⟩
      have HB6 := Lib.hid (bel_then HBW.out (KB.out iw))
      go_wp2_with fail
      go_ret
      exact ⟨by rw [HX.out]; rfl, HB6.out⟩
  · obtain ⟨y0, y1, hl⟩ : ∃ y0 y1, e.parts = [y0, y1] := len_two h1
    have hln : e.parts.length = 2 := by rw [hl]; rfl
    have hp0 : e.parts[0]? = some y0 := by rw [hl]; rfl
    obtain ⟨b0, off0, cap0, n0, e0, l0, hlv0, hbl0, z00, z01, z02, z03, hpi0⟩ := ptPart hr hp0
    have hp1 : e.parts[1]? = some y1 := by rw [hl]; rfl
    obtain ⟨b1, off1, cap1, n1, e1, l1, hlv1, hbl1, z10, z11, z12, z13, hpi1⟩ := ptPart hr hp1
    rw [hlv0] at hlv1
    cases hlv1
    cases hlv0
    simp only [Nat.zero_mul, Nat.one_mul, Nat.add_zero, Nat.add_assoc, Nat.reduceAdd] at z00 z01 z02 z03 z10 z11 z12 z13
    have hc0 := fun w' hb => ih y0 n0 e0 l0 w' (by have := PT.size_part hp0; omega) (by have := PT.size_part hp0; omega) (hpr.part hp0) (hpi0.moved (show Below w.heap.size w w' from hb))
    have hz0 := pt_size y0.size y0 (Nat.le_refl _) (hpr.part hp0)
    have hq0 := PT.size_part hp0
    obtain ⟨⟨no0, nq0, rfl⟩, ⟨eo0, eq0, rfl⟩, ⟨lo0, lq0, rfl⟩⟩ := hpi0.form
    obtain ⟨t0, ht0⟩ : ∃ z, z = y0.text := ⟨_, rfl⟩
    obtain ⟨k0, hk0⟩ : ∃ z, z = y0.kind := ⟨_, rfl⟩
    obtain ⟨a0, hn0⟩ : ∃ z, z = y0.names.length := ⟨_, rfl⟩
    obtain ⟨c0, he0⟩ : ∃ z, z = y0.ends.length := ⟨_, rfl⟩
    obtain ⟨r0, hr0⟩ : ∃ z, z = y0.parts.length := ⟨_, rfl⟩
    have hc1 := fun w' hb => ih y1 n1 e1 l1 w' (by have := PT.size_part hp1; omega) (by have := PT.size_part hp1; omega) (hpr.part hp1) (hpi1.moved (show Below w.heap.size w w' from hb))
    have hz1 := pt_size y1.size y1 (Nat.le_refl _) (hpr.part hp1)
    have hq1 := PT.size_part hp1
    obtain ⟨⟨no1, nq1, rfl⟩, ⟨eo1, eq1, rfl⟩, ⟨lo1, lq1, rfl⟩⟩ := hpi1.form
    obtain ⟨t1, ht1⟩ : ∃ z, z = y1.text := ⟨_, rfl⟩
    obtain ⟨k1, hk1⟩ : ∃ z, z = y1.kind := ⟨_, rfl⟩
    obtain ⟨a1, hn1⟩ : ∃ z, z = y1.names.length := ⟨_, rfl⟩
    obtain ⟨c1, he1⟩ : ∃ z, z = y1.ends.length := ⟨_, rfl⟩
    obtain ⟨r1, hr1⟩ : ∃ z, z = y1.parts.length := ⟨_, rfl⟩
    have hteq : t = (hold y0.text (([] : List Int).contains y0.kind) ++ ⟨#[124]⟩) ++ hold y1.text ([6].contains y1.kind) := by rw [hte, k, hl]; rfl
    rw [hln]
    rw [k]
    obtain ⟨a, ha⟩ : ∃ a, a = e.names.length := ⟨_, rfl⟩
    obtain ⟨c, hc⟩ : ∃ c, c = e.ends.length := ⟨_, rfl⟩
    rw [← ha, ← hc]
    rw [← ht0] at hteq hc0 hz0
    rw [← hk0] at hteq hc0 z00
    rw [← hn0] at hc0 z01
    rw [← he0] at hc0 z02
    rw [← hr0] at hc0 z03
    rw [← ht1] at hteq hc1 hz1
    rw [← hk1] at hteq hc1 z10
    rw [← hn1] at hc1 z11
    rw [← he1] at hc1 z12
    rw [← hr1] at hc1 z13
    rw [hln] at *
    obtain ⟨W, hW⟩ : ∃ W, W = w.alloc (.cells #[.int .i64 6, .slice o1 a q1, .slice o3 c q3, .slice (some ⟨b0, off0, none⟩) 2 q2] 47) := ⟨_, rfl⟩
    have HBW := Lib.hid (show Below w.heap.size w W by rw [hW]; exact (Below.refl _ _).alloc (Nat.le_refl _) _)
    have u1 : W.cell? ⟨w.heap.size, 1, none⟩ = some (.slice o1 a q1) := by rw [hW]; exact Joins.cell_alloc_mark_at _ #[.int .i64 6, .slice o1 a q1, .slice o3 c q3, .slice (some ⟨b0, off0, none⟩) 2 q2] 47 (0, 0) _ 1 (by simp)
    have u2 : W.cell? ⟨w.heap.size, 2, none⟩ = some (.slice o3 c q3) := by rw [hW]; exact Joins.cell_alloc_mark_at _ #[.int .i64 6, .slice o1 a q1, .slice o3 c q3, .slice (some ⟨b0, off0, none⟩) 2 q2] 47 (0, 0) _ 2 (by simp)
    have u3 : W.cell? ⟨w.heap.size, 3, none⟩ = some (.slice (some ⟨b0, off0, none⟩) 2 q2) := by rw [hW]; exact Joins.cell_alloc_mark_at _ #[.int .i64 6, .slice o1 a q1, .slice o3 c q3, .slice (some ⟨b0, off0, none⟩) 2 q2] 47 (0, 0) _ 3 (by simp)
    obtain ⟨ι, K, hne, hkb, hks⟩ := kept_family W
    have KB := Lib.hid hkb
    have kS := hks _ (Below.refl _ _).drew
    have j1 : ∀ i, (K i).cell? ⟨w.heap.size, 1, none⟩ = some (.slice o1 a q1) := fun i => cell_later (hkb i) u1
    have j2 : ∀ i, (K i).cell? ⟨w.heap.size, 2, none⟩ = some (.slice o3 c q3) := fun i => cell_later (hkb i) u2
    have j3 : ∀ i, (K i).cell? ⟨w.heap.size, 3, none⟩ = some (.slice (some ⟨b0, off0, none⟩) 2 q2) := fun i => cell_later (hkb i) u3
    have x00 : ∀ i, (K i).cell? ⟨b0, off0, none⟩ = some (.int .i64 k0) := fun i => cell_later (hkb i) (cell_later HBW.out z00)
    have x01 : ∀ i, (K i).cell? ⟨b0, off0 + 1, none⟩ = some (.slice no0 a0 nq0) := fun i => cell_later (hkb i) (cell_later HBW.out z01)
    have x02 : ∀ i, (K i).cell? ⟨b0, off0 + 2, none⟩ = some (.slice eo0 c0 eq0) := fun i => cell_later (hkb i) (cell_later HBW.out z02)
    have x03 : ∀ i, (K i).cell? ⟨b0, off0 + 3, none⟩ = some (.slice lo0 r0 lq0) := fun i => cell_later (hkb i) (cell_later HBW.out z03)
    have HC0 := Lib.hid (fun i => calls_kept hkb hks (i := i) (hc0 (K i) (bel_then HBW.out (hkb i))))
    have x10 : ∀ i, (K i).cell? ⟨b0, off0 + 4, none⟩ = some (.int .i64 k1) := fun i => cell_later (hkb i) (cell_later HBW.out z10)
    have x11 : ∀ i, (K i).cell? ⟨b0, off0 + 5, none⟩ = some (.slice no1 a1 nq1) := fun i => cell_later (hkb i) (cell_later HBW.out z11)
    have x12 : ∀ i, (K i).cell? ⟨b0, off0 + 6, none⟩ = some (.slice eo1 c1 eq1) := fun i => cell_later (hkb i) (cell_later HBW.out z12)
    have x13 : ∀ i, (K i).cell? ⟨b0, off0 + 7, none⟩ = some (.slice lo1 r1 lq1) := fun i => cell_later (hkb i) (cell_later HBW.out z13)
    have HC1 := Lib.hid (fun i => calls_kept hkb hks (i := i) (hc1 (K i) (bel_then HBW.out (hkb i))))
    obtain ⟨m1, hm1⟩ : ∃ z, z = (k1 == 6) := ⟨_, rfl⟩
    have gm1 := hm1.symm
    · have HX := Lib.hid (show t = (t0 ++ ⟨#[124]⟩) ++ hold t1 m1 by rw [hteq]; simp only [List.contains_cons, List.contains_nil, gm1, Bool.or_false]; rfl)
      have HI1 := Lib.hid (fun i => calls_kept hkb hks (i := i) ((rin_any t1 m1 (K i) (by omega)).mono (fun e w' h => ⟨h.1, by rw [h.2]; exact Below.refl _ _⟩)))
      have hu0 : ¬ 9223372036854775807 < t0.size + 1 + (hold t1 m1).size := by have := hold_size t1 m1; omega
      have hu1 : ¬ 9223372036854775807 < t0.size + 1 := by omega
      clear hte hsz hns hes hs hs2 hpr hr ht k ha hc hl hln ih hteq hkb hks u1 u2 u3 h1 hp0 hbl0 hpi0 hc0 hz0 hq0 ht0 hk0 hn0 he0 hr0 z00 z01 z02 z03 hp1 hbl1 hpi1 hc1 hz1 hq1 ht1 hk1 hn1 he1 hr1 z10 z11 z12 z13 hm1
      go_enter Tryz.func43, Tryz.ntmps43
      go_upto_region 13 with (fail)
      rw [← hW]
      clear hW
      refine region_kept K (by kernel_rfl) (by kernel_rfl) kS ?_
      repeat (go_big_quiet_step (with_reducible first | exact HC0.out _ | exact HC1.out _ | exact HI1.out _))
      refine wpQuiet_nil ?_
      rintro _ ⟨iw, rfl⟩
      have HB6 := Lib.hid (bel_then HBW.out (KB.out iw))
      go_wp2_with fail
      go_ret
      exact ⟨by rw [HX.out]; rfl, HB6.out⟩
  · obtain ⟨y0, hl⟩ : ∃ y0, e.parts = [y0] := List.length_eq_one_iff.1 h1
    have hln : e.parts.length = 1 := by rw [hl]; rfl
    have hp0 : e.parts[0]? = some y0 := by rw [hl]; rfl
    obtain ⟨b0, off0, cap0, n0, e0, l0, hlv0, hbl0, z00, z01, z02, z03, hpi0⟩ := ptPart hr hp0
    cases hlv0
    simp only [Nat.zero_mul, Nat.one_mul, Nat.add_zero, Nat.add_assoc, Nat.reduceAdd] at z00 z01 z02 z03
    have hc0 := fun w' hb => ih y0 n0 e0 l0 w' (by have := PT.size_part hp0; omega) (by have := PT.size_part hp0; omega) (hpr.part hp0) (hpi0.moved (show Below w.heap.size w w' from hb))
    have hz0 := pt_size y0.size y0 (Nat.le_refl _) (hpr.part hp0)
    have hq0 := PT.size_part hp0
    obtain ⟨⟨no0, nq0, rfl⟩, ⟨eo0, eq0, rfl⟩, ⟨lo0, lq0, rfl⟩⟩ := hpi0.form
    obtain ⟨t0, ht0⟩ : ∃ z, z = y0.text := ⟨_, rfl⟩
    obtain ⟨k0, hk0⟩ : ∃ z, z = y0.kind := ⟨_, rfl⟩
    obtain ⟨a0, hn0⟩ : ∃ z, z = y0.names.length := ⟨_, rfl⟩
    obtain ⟨c0, he0⟩ : ∃ z, z = y0.ends.length := ⟨_, rfl⟩
    obtain ⟨r0, hr0⟩ : ∃ z, z = y0.parts.length := ⟨_, rfl⟩
    have hteq : t = hold y0.text ([5, 6].contains y0.kind) ++ ⟨#[42]⟩ := by rw [hte, k, hl]; rfl
    rw [hln]
    rw [k]
    obtain ⟨a, ha⟩ : ∃ a, a = e.names.length := ⟨_, rfl⟩
    obtain ⟨c, hc⟩ : ∃ c, c = e.ends.length := ⟨_, rfl⟩
    rw [← ha, ← hc]
    rw [← ht0] at hteq hc0 hz0
    rw [← hk0] at hteq hc0 z00
    rw [← hn0] at hc0 z01
    rw [← he0] at hc0 z02
    rw [← hr0] at hc0 z03
    rw [hln] at *
    obtain ⟨W, hW⟩ : ∃ W, W = w.alloc (.cells #[.int .i64 7, .slice o1 a q1, .slice o3 c q3, .slice (some ⟨b0, off0, none⟩) 1 q2] 47) := ⟨_, rfl⟩
    have HBW := Lib.hid (show Below w.heap.size w W by rw [hW]; exact (Below.refl _ _).alloc (Nat.le_refl _) _)
    have u1 : W.cell? ⟨w.heap.size, 1, none⟩ = some (.slice o1 a q1) := by rw [hW]; exact Joins.cell_alloc_mark_at _ #[.int .i64 7, .slice o1 a q1, .slice o3 c q3, .slice (some ⟨b0, off0, none⟩) 1 q2] 47 (0, 0) _ 1 (by simp)
    have u2 : W.cell? ⟨w.heap.size, 2, none⟩ = some (.slice o3 c q3) := by rw [hW]; exact Joins.cell_alloc_mark_at _ #[.int .i64 7, .slice o1 a q1, .slice o3 c q3, .slice (some ⟨b0, off0, none⟩) 1 q2] 47 (0, 0) _ 2 (by simp)
    have u3 : W.cell? ⟨w.heap.size, 3, none⟩ = some (.slice (some ⟨b0, off0, none⟩) 1 q2) := by rw [hW]; exact Joins.cell_alloc_mark_at _ #[.int .i64 7, .slice o1 a q1, .slice o3 c q3, .slice (some ⟨b0, off0, none⟩) 1 q2] 47 (0, 0) _ 3 (by simp)
    obtain ⟨ι, K, hne, hkb, hks⟩ := kept_family W
    have KB := Lib.hid hkb
    have kS := hks _ (Below.refl _ _).drew
    have j1 : ∀ i, (K i).cell? ⟨w.heap.size, 1, none⟩ = some (.slice o1 a q1) := fun i => cell_later (hkb i) u1
    have j2 : ∀ i, (K i).cell? ⟨w.heap.size, 2, none⟩ = some (.slice o3 c q3) := fun i => cell_later (hkb i) u2
    have j3 : ∀ i, (K i).cell? ⟨w.heap.size, 3, none⟩ = some (.slice (some ⟨b0, off0, none⟩) 1 q2) := fun i => cell_later (hkb i) u3
    have x00 : ∀ i, (K i).cell? ⟨b0, off0, none⟩ = some (.int .i64 k0) := fun i => cell_later (hkb i) (cell_later HBW.out z00)
    have x01 : ∀ i, (K i).cell? ⟨b0, off0 + 1, none⟩ = some (.slice no0 a0 nq0) := fun i => cell_later (hkb i) (cell_later HBW.out z01)
    have x02 : ∀ i, (K i).cell? ⟨b0, off0 + 2, none⟩ = some (.slice eo0 c0 eq0) := fun i => cell_later (hkb i) (cell_later HBW.out z02)
    have x03 : ∀ i, (K i).cell? ⟨b0, off0 + 3, none⟩ = some (.slice lo0 r0 lq0) := fun i => cell_later (hkb i) (cell_later HBW.out z03)
    have HC0 := Lib.hid (fun i => calls_kept hkb hks (i := i) (hc0 (K i) (bel_then HBW.out (hkb i))))
    obtain ⟨m0, hm0⟩ : ∃ z, z = (k0 == 5) := ⟨_, rfl⟩
    have gm0 := hm0.symm
    obtain ⟨m1, hm1⟩ : ∃ z, z = (k0 == 6) := ⟨_, rfl⟩
    have gm1 := hm1.symm
    cases m0 with
    | true =>
      have HX := Lib.hid (show t = hold t0 true ++ ⟨#[42]⟩ by rw [hteq]; simp only [List.contains_cons, List.contains_nil, gm0, Bool.or_false, Bool.or_true, Bool.true_or, Bool.false_or])
      have HI0 := Lib.hid (fun i => calls_kept hkb hks (i := i) ((rin_any t0 true (K i) (by omega)).mono (fun e w' h => ⟨h.1, by rw [h.2]; exact Below.refl _ _⟩)))
      have hu0 : ¬ 9223372036854775807 < (hold t0 true).size + 1 := by have := hold_size t0 true; omega
      clear hte hsz hns hes hs hs2 hpr hr ht k ha hc hl hln ih hteq hkb hks u1 u2 u3 h1 hp0 hbl0 hpi0 hc0 hz0 hq0 ht0 hk0 hn0 he0 hr0 z00 z01 z02 z03 hm0 hm1
      go_enter Tryz.func43, Tryz.ntmps43
      go_upto_region 14 with (fail)
      rw [← hW]
      clear hW
      refine region_kept K (by kernel_rfl) (by kernel_rfl) kS ?_
      repeat (go_big_quiet_step (with_reducible first | exact HC0.out _ | exact HI0.out _))
      refine wpQuiet_nil ?_
      rintro _ ⟨iw, rfl⟩
      have HB6 := Lib.hid (bel_then HBW.out (KB.out iw))
      go_wp2_with fail
      go_ret
      exact ⟨by rw [HX.out]; rfl, HB6.out⟩
    | false =>
      have HX := Lib.hid (show t = hold t0 m1 ++ ⟨#[42]⟩ by rw [hteq]; simp only [List.contains_cons, List.contains_nil, gm0, gm1, Bool.or_false, Bool.or_true, Bool.true_or, Bool.false_or])
      have HI0 := Lib.hid (fun i => calls_kept hkb hks (i := i) ((rin_any t0 m1 (K i) (by omega)).mono (fun e w' h => ⟨h.1, by rw [h.2]; exact Below.refl _ _⟩)))
      have hu0 : ¬ 9223372036854775807 < (hold t0 m1).size + 1 := by have := hold_size t0 m1; omega
      clear hte hsz hns hes hs hs2 hpr hr ht k ha hc hl hln ih hteq hkb hks u1 u2 u3 h1 hp0 hbl0 hpi0 hc0 hz0 hq0 ht0 hk0 hn0 he0 hr0 z00 z01 z02 z03 hm0 hm1
      go_enter Tryz.func43, Tryz.ntmps43
      go_upto_region 14 with (fail)
      rw [← hW]
      clear hW
      refine region_kept K (by kernel_rfl) (by kernel_rfl) kS ?_
      repeat (go_big_quiet_step (with_reducible first | exact HC0.out _ | exact HI0.out _))
      refine wpQuiet_nil ?_
      rintro _ ⟨iw, rfl⟩
      have HB6 := Lib.hid (bel_then HBW.out (KB.out iw))
      go_wp2_with fail
      go_ret
      exact ⟨by rw [HX.out]; rfl, HB6.out⟩
theorem rpat_all14 : ∀ N, PatIH N
  | 0 => by intro e nv ev lv w hs; have := e.size_pos; omega
  | N + 1 => rpat_step N (rpat_all14 N)
end Go.Proofs.YtbanmggkfpnalaaGreatDoor
