/- print.Pat. -/
import Derived.Test.YtbanmggkfpnalaaGreatDoorPrPt
set_option linter.unusedVariables false
set_option linter.unusedSimpArgs false
namespace Go.Proofs.YtbanmggkfpnalaaGreatDoor
open Go.RowKit Ru

theorem cell4_of {w : World} {p : Nat} {a b c d : Value} {t : TypeId} (h : w.heap[p]? = some (.cells #[a, b, c, d] t (0, 0))) : w.cell? ⟨p, 0, none⟩ = some a ∧ w.cell? ⟨p, 1, none⟩ = some b ∧ w.cell? ⟨p, 2, none⟩ = some c ∧ w.cell? ⟨p, 3, none⟩ = some d := by
  simp [World.cell?, h]
def PxIH (N : Nat) : Prop := ∀ (e : PT) (nv ev lv : Value) (w : World), e.size ≤ N → e.size ≤ 100 → e.Okt → PtIs w e nv ev lv →
  Calls Tryz.prog 47 #[.agg #[.int .i64 e.kind, nv, ev, lv]] w fun x w' => x = .returned (.string e.text) ∧ Below w.heap.size w w'
set_option maxHeartbeats 4000000 in
set_option maxRecDepth 100000 in
theorem pxPart_any (N : Nat) (ih : PxIH N) (e p : PT) (i q : Nat) (nv ev lv kv : Value) (zs : List Int) (w : World) (hp : e.parts[i]? = some p) (hpl : e.parts.length ≤ 1000) (hs : p.size ≤ N) (hs2 : p.size ≤ 100) (hpr : p.Okt) (hr : PtIs w e nv ev lv)
    (hq : w.heap[q]? = some (.cells #[.int .i64 e.kind, nv, ev, lv] 47 (0, 0))) (hk : Row w kv zs.length (zs.map (Value.int .i64))) (hz : zs.length ≤ 1000) :
    Calls Tryz.prog 87 #[.int .i64 i, kv, .pointer (some ⟨q, 0, none⟩)] w fun x w' => x = .returned (.string (hold p.text (zs.contains p.kind))) ∧ Below w.heap.size w w' := by
  obtain ⟨o0, cap, d1, d3, d2, rfl, hall⟩ := hr.all
  obtain ⟨hpi, b, off, rfl, hb, z0, z1, z3, z2⟩ := hall i p hp
  have hi : i < e.parts.length := (List.getElem?_eq_some_iff.1 hp).1
  obtain ⟨n, hn⟩ : ∃ n, n = e.parts.length := ⟨_, rfl⟩
  obtain ⟨-, -, -, c2⟩ := cell4_of hq
  rw [← hn] at c2 hi hpl
  obtain ⟨ι, K, hne, hkb, hks⟩ := kept_family w
  have KB := Lib.hid hkb
  have kS := hks _ (Below.refl _ _).drew
  have hsz := pt_size p.size p (Nat.le_refl _) hpr
  obtain ⟨n', hn'⟩ : ∃ v, v = d1 i := ⟨_, rfl⟩
  obtain ⟨s', hs'⟩ : ∃ v, v = d3 i := ⟨_, rfl⟩
  obtain ⟨l', hl'⟩ : ∃ v, v = d2 i := ⟨_, rfl⟩
  rw [← hn'] at z1 hpi
  rw [← hs'] at z3 hpi
  rw [← hl'] at z2 hpi
  obtain ⟨t, ht⟩ : ∃ t, t = p.text := ⟨_, rfl⟩
  obtain ⟨k, hkk⟩ : ∃ k, k = p.kind := ⟨_, rfl⟩
  obtain ⟨m, hm⟩ : ∃ m, m = zs.contains p.kind := ⟨_, rfl⟩
  have h1 := fun i => ih p n' s' l' (K i) hs hs2 hpr (hpi.moved (hkb i))
  have h2 := fun i => containsI_any zs kv p.kind (K i) (hk.below (hkb i)) hz
  rw [← ht, ← hkk] at h1
  rw [← hkk] at z0
  rw [← hm, ← hkk] at h2
  rw [← ht] at hsz
  rw [← hm, ← ht]
  have h3 := fun i => held_any t m (K i) (by omega)
  have HX := Lib.hid (fun i => calls_kept hkb hks (i := i) (h1 i))
  have HC := Lib.hid (fun i => calls_kept hkb hks (i := i) ((h2 i).mono (fun e w' h => ⟨h.1, by rw [h.2]; exact Below.refl _ _⟩)))
  have HH := Lib.hid (fun i => calls_kept hkb hks (i := i) ((h3 i).mono (fun e w' h => ⟨h.1, by rw [h.2]; exact Below.refl _ _⟩)))
  have j0 : ∀ i, (K i).cell? ⟨q, 3, none⟩ = some (.slice (some ⟨b, off, none⟩) n cap) := fun i => cell_later (hkb i) c2
  have j1 : ∀ ii, (K ii).cell? ⟨b, off + i * 4, none⟩ = some (.int .i64 k) := fun i => cell_later (hkb i) z0
  have j2 : ∀ ii, (K ii).cell? ⟨b, off + i * 4 + 1, none⟩ = some n' := fun i => cell_later (hkb i) z1
  have j3 : ∀ ii, (K ii).cell? ⟨b, off + i * 4 + 2, none⟩ = some s' := fun i => cell_later (hkb i) z3
  have j4 : ∀ ii, (K ii).cell? ⟨b, off + i * 4 + 3, none⟩ = some l' := fun i => cell_later (hkb i) z2
  clear hn' hs' hl'
  obtain ⟨⟨o1, q1, rfl⟩, ⟨o3, q3, rfl⟩, ⟨o2, q2, rfl⟩⟩ := hpi.form
  have hi1 : (0 : Int) ≤ (i : Int) := by omega
  have hi2 : (i : Int) < (n : Int) := by omega
  have hi3 : ((i : Int)).toNat = i := by simp
  clear hkb hks h1 h2 h3 ht hkk hm hsz z0 z1 z2 z3 c2 hq hk hr hpi hp hpr hs hs2 hz ih hall hn
  go_enter Tryz.func87, Tryz.ntmps87
  go_upto_region 1 with (fail)
  refine region_kept K (by kernel_rfl) (by kernel_rfl) kS ?_
  repeat (go_big_quiet_step (with_reducible first | exact HX.out _ | exact HC.out _ | exact HH.out _))
  refine wpQuiet_nil ?_
  rintro _ ⟨iw, rfl⟩
  have HB6 := Lib.hid (KB.out iw)
  go_wp2_with fail
  go_ret
  exact ⟨rfl, HB6.out⟩
set_option maxHeartbeats 16000000 in
set_option maxRecDepth 100000 in
theorem pat_step (N : Nat) (ih : PxIH N) : PxIH (N + 1) := by
  intro e nv ev lv w hs hs2 hpr hr
  have hpart : ∀ (i : Nat) (iv : Int) (p : PT) (zs : List Int) (kv : Value) (w' : World), iv = (i : Int) → e.parts[i]? = some p → e.parts.length ≤ 1000 → zs.length ≤ 1000 → Below w.heap.size w w' → w'.heap[w.heap.size]? = some (.cells #[.int .i64 e.kind, nv, ev, lv] 47 (0, 0)) → Row w' kv zs.length (zs.map (Value.int .i64)) →
      Calls Tryz.prog 87 #[.int .i64 iv, kv, .pointer (some ⟨w.heap.size, 0, none⟩)] w' fun x w'' => x = .returned (.string (hold p.text (zs.contains p.kind))) ∧ Below w'.heap.size w' w'' := fun i iv p zs kv w' hiv hp hpl hz hb hq hk => hiv ▸
    pxPart_any N ih e p i w.heap.size nv ev lv kv zs w' hp hpl (by have := PT.size_part hp; omega) (by have := PT.size_part hp; omega) (hpr.part hp) (hr.moved hb) hq hk hz
  have hte := PT.text_eq e
  have hsz := pt_size e.size e (Nat.le_refl _) hpr
  have hns := hr.names
  have hes := hr.ends
  have sns := hpr.ns
  have ses := hpr.es
  obtain ⟨⟨o1, q1, rfl⟩, ⟨o3, q3, rfl⟩, ⟨o2, q2, rfl⟩⟩ := hr.form
  obtain ⟨t, ht⟩ : ∃ t, t = e.text := ⟨_, rfl⟩
  rw [← ht] at hte hsz ⊢
  have hts : t.size ≤ 3000000000 := by omega
  rcases PT.shp_cases hpr.shp' with k | k | k | ⟨k, h1⟩ | ⟨k, h1⟩ | ⟨k, h1⟩ | ⟨k, h1⟩
  · rw [k] at hte ⊢
    obtain ⟨a, ha⟩ : ∃ a, a = e.names.length := ⟨_, rfl⟩
    obtain ⟨c, hc⟩ : ∃ c, c = e.ends.length := ⟨_, rfl⟩
    obtain ⟨b, hb⟩ : ∃ b, b = e.parts.length := ⟨_, rfl⟩
    rw [← ha, ← hc, ← hb]
    have HX := Lib.hid (show t = ⟨#[40, 41]⟩ by rw [hte]; rfl)
    clear hpart hte hsz hns hes sns ses hs hs2 hpr hr ht hts k ha hc ih hb
    go_enter Tryz.func47, Tryz.ntmps47
    go_wp2_with fail
    go_ret
    exact ⟨by rw [HX.out]; rfl, by repeat (first | exact Below.refl _ _ | (refine bel_new ?_ _))⟩
  · rw [k] at hte ⊢
    obtain ⟨a, ha⟩ : ∃ a, a = e.names.length := ⟨_, rfl⟩
    obtain ⟨c, hc⟩ : ∃ c, c = e.ends.length := ⟨_, rfl⟩
    obtain ⟨b, hb⟩ : ∃ b, b = e.parts.length := ⟨_, rfl⟩
    rw [← ha, ← hc, ← hb]
    have HX := Lib.hid (show t = ⟨#[95]⟩ by rw [hte]; rfl)
    clear hpart hte hsz hns hes sns ses hs hs2 hpr hr ht hts k ha hc ih hb
    go_enter Tryz.func47, Tryz.ntmps47
    go_wp2_with fail
    go_ret
    exact ⟨by rw [HX.out]; rfl, by repeat (first | exact Below.refl _ _ | (refine bel_new ?_ _))⟩
  · have hps := fun w' (hb : Below w.heap.size w w') => braces_any _ e.names w' (hns.below hb) sns
    rw [k] at hte ⊢
    have HX := Lib.hid (show t = brB e.names by rw [hte]; rfl)
    obtain ⟨a, ha⟩ : ∃ a, a = e.names.length := ⟨_, rfl⟩
    obtain ⟨c, hc⟩ : ∃ c, c = e.ends.length := ⟨_, rfl⟩
    obtain ⟨b, hb⟩ : ∃ b, b = e.parts.length := ⟨_, rfl⟩
    rw [← ha] at hps
    rw [← ha, ← hc, ← hb]
    have HP := Lib.hid hps
    clear hpart hte hsz hns hes sns ses hs hs2 hpr hr ht hts k ha hc ih hb hps
    go_enter Tryz.func47, Tryz.ntmps47
    go_wp2_with fail
    refine (HP.out _ (bel_new (Below.refl _ _) _)).mono ?_
    rintro x w2 ⟨rfl, hb2⟩
    have HB2 := Lib.hid (bel_then (bel_new (Below.refl w.heap.size w) _) hb2)
    clear hb2
    go_wp2_with fail
    go_ret
    exact ⟨by rw [HX.out]; rfl, HB2.out⟩
  · match hl : e.parts, h1 with
    | [x], _ =>
      have g0 := fun kv w' hb => hpart 0 0 x [] kv w' rfl (by rw [hl]; rfl) (by rw [hl]; simp) (by decide) hb
      have gn := fun w' (hb : Below w.heap.size w w') => strJoinB_any _ e.names w' (hns.below hb) (by have := sns.1; omega) (by have := sns.join; omega)
      have ge := fun w' (hb : Below w.heap.size w w') => strJoinB_any _ e.ends w' (hes.below hb) (by have := ses.1; omega) (by have := ses.join; omega)
      rw [hl] at hte
      rw [k] at hte ⊢
      simp only [k, hl, List.length_cons, List.length_nil, Nat.zero_add, Nat.reduceAdd] at g0 ⊢
      obtain ⟨a, ha⟩ : ∃ a, a = e.names.length := ⟨_, rfl⟩
      obtain ⟨c, hc⟩ : ∃ c, c = e.ends.length := ⟨_, rfl⟩
      rw [← ha, ← hc] at g0 ⊢
      rw [← ha] at gn
      rw [← hc] at ge
      have hteq : t = ((((((⟨#[60]⟩ ++ joinB e.names) ++ ⟨#[58]⟩) ++ hold x.text (([] : List Int).contains x.kind)) ++ ⟨#[58]⟩) ++ joinB e.ends) ++ ⟨#[62]⟩) := by rw [hte]; rfl
      obtain ⟨A, hA⟩ : ∃ z, z = hold x.text (([] : List Int).contains x.kind) := ⟨_, rfl⟩
      obtain ⟨J, hJ⟩ : ∃ z, z = joinB e.names := ⟨_, rfl⟩
      obtain ⟨E, hE⟩ : ∃ z, z = joinB e.ends := ⟨_, rfl⟩
      rw [← hA] at g0
      rw [← hJ] at gn
      rw [← hE] at ge
      rw [← hA, ← hJ, ← hE] at hteq
      rw [hteq] at hts
      simp only [ByteArray.size_append] at hts
      have z4 : (⟨#[60]⟩ : ByteArray).size = 1 := rfl
      have z5 : (⟨#[58]⟩ : ByteArray).size = 1 := rfl
      have z6 : (⟨#[62]⟩ : ByteArray).size = 1 := rfl
      have hu0 : ¬ 9223372036854775807 < 1 + J.size := by omega
      have hu1 : ¬ 9223372036854775807 < 1 + J.size + 1 := by omega
      have hu2 : ¬ 9223372036854775807 < 1 + J.size + 1 + A.size := by omega
      have hu3 : ¬ 9223372036854775807 < 1 + J.size + 1 + A.size + 1 := by omega
      have hu4 : ¬ 9223372036854775807 < 1 + J.size + 1 + A.size + 1 + E.size := by omega
      have hu5 : ¬ 9223372036854775807 < 1 + J.size + 1 + A.size + 1 + E.size + 1 := by omega
      have HX := Lib.hid hteq
      obtain ⟨W, hW⟩ : ∃ W, W = w.alloc (.cells #[.int .i64 3, .slice o1 a q1, .slice o3 c q3, .slice o2 1 q2] 47) := ⟨_, rfl⟩
      have hbW : Below w.heap.size w W := by rw [hW]; exact (Below.refl _ _).alloc (Nat.le_refl _) _
      have hbx : W.heap[w.heap.size]? = some (.cells #[.int .i64 3, .slice o1 a q1, .slice o3 c q3, .slice o2 1 q2] 47 (0, 0)) := by rw [hW]; exact heap_alloc_new w _
      obtain ⟨-, y1, y2, y3⟩ := cell4_of hbx
      obtain ⟨ι, K, hne, hkb, hks⟩ := kept_family W
      have KB := Lib.hid hkb
      have kS := hks _ (Below.refl _ _).drew
      have HBW := Lib.hid hbW
      have HW := Lib.hid hW
      have HN := Lib.hid (fun i => calls_kept hkb hks (i := i) (gn (K i) (bel_then hbW (hkb i))))
      have HE := Lib.hid (fun i => calls_kept hkb hks (i := i) (ge (K i) (bel_then hbW (hkb i))))
      have HA := Lib.hid (fun i => calls_kept hkb hks (i := i) (g0 _ (K i) (bel_then hbW (hkb i)) (bel_get (hkb i) hbx) (rowI_nil _)))
      have j0 : ∀ i, (K i).cell? ⟨w.heap.size, 1, none⟩ = some (.slice o1 a q1) := fun i => cell_later (hkb i) y1
      have j1 : ∀ i, (K i).cell? ⟨w.heap.size, 2, none⟩ = some (.slice o3 c q3) := fun i => cell_later (hkb i) y2
      clear hpart hte hsz hns hes sns ses hs hs2 hpr hr ht k ha hc ih hteq hl g0 gn ge hA hJ hE hts z4 z5 z6 hW hbW hbx y1 y2 y3 hkb hks
      go_enter Tryz.func47, Tryz.ntmps47
      go_upto_region 8 with (fail)
      rw [← HW.out]
      refine region_kept K (by kernel_rfl) (by kernel_rfl) kS ?_
      repeat (go_big_quiet_step (with_reducible first | exact HN.out _ | exact HE.out _ | exact HA.out _))
      refine wpQuiet_nil ?_
      rintro _ ⟨iw, rfl⟩
      have HB6 := Lib.hid (bel_then HBW.out (KB.out iw))
      go_wp2_with fail
      go_ret
      exact ⟨by rw [HX.out]; rfl, HB6.out⟩
  · match hl : e.parts, h1 with
    | [x, y], _ =>
      have g0 := fun kv w' hb => hpart 0 0 x [6] kv w' rfl (by rw [hl]; rfl) (by rw [hl]; simp) (by decide) hb
      have g1 := fun kv w' hb => hpart 1 1 y [6, 5] kv w' rfl (by rw [hl]; rfl) (by rw [hl]; simp) (by decide) hb
      rw [hl] at hte
      rw [k] at hte ⊢
      simp only [k, hl, List.length_cons, List.length_nil, Nat.zero_add, Nat.reduceAdd] at g0 g1 ⊢
      obtain ⟨a, ha⟩ : ∃ a, a = e.names.length := ⟨_, rfl⟩
      obtain ⟨c, hc⟩ : ∃ c, c = e.ends.length := ⟨_, rfl⟩
      rw [← ha, ← hc] at g0 g1 ⊢
      have hteq : t = (hold x.text ([6].contains x.kind) ++ ⟨#[32]⟩) ++ hold y.text ([6, 5].contains y.kind) := by rw [hte]; rfl
      obtain ⟨A, hA⟩ : ∃ z, z = hold x.text ([6].contains x.kind) := ⟨_, rfl⟩
      obtain ⟨C, hC⟩ : ∃ z, z = hold y.text ([6, 5].contains y.kind) := ⟨_, rfl⟩
      rw [← hA] at g0
      rw [← hC] at g1
      rw [← hA, ← hC] at hteq
      have G0 := Lib.hid (fun kv w' (hb : Below (w.alloc (.cells #[.int .i64 5, .slice o1 a q1, .slice o3 c q3, .slice o2 2 q2] 47)).heap.size (w.alloc (.cells #[.int .i64 5, .slice o1 a q1, .slice o3 c q3, .slice o2 2 q2] 47)) w') hk => g0 kv w' (bel_then ((Below.refl w.heap.size w).alloc (Nat.le_refl _) _) hb) (box_kept hb) hk)
      have G1 := Lib.hid (fun kv w' (hb : Below (w.alloc (.cells #[.int .i64 5, .slice o1 a q1, .slice o3 c q3, .slice o2 2 q2] 47)).heap.size (w.alloc (.cells #[.int .i64 5, .slice o1 a q1, .slice o3 c q3, .slice o2 2 q2] 47)) w') hk => g1 kv w' (bel_then ((Below.refl w.heap.size w).alloc (Nat.le_refl _) _) hb) (box_kept hb) hk)
      rw [hteq] at hts
      simp only [ByteArray.size_append] at hts
      have hu0 : ¬ 9223372036854775807 < A.size + 1 := by omega
      have hu1 : ¬ 9223372036854775807 < A.size + 1 + C.size := by omega
      have HX := Lib.hid hteq
      clear hpart hte hsz hns hes sns ses hs hs2 hpr hr ht hts k ha hc ih hteq hl g0 g1 hA hC
      go_enter Tryz.func47, Tryz.ntmps47
      go_wp2_with fail
      refine (G0.out _ _ ((Below.refl _ _).alloc (Nat.le_refl _) _) (rowI_new _ _ _ (by simp) [6] 1 rfl rfl (by decide))).mono ?_
      rintro z w3 ⟨rfl, hb3⟩
      have HB3 := Lib.hid (bel_then (show Below (w.alloc (.cells #[.int .i64 5, .slice o1 a q1, .slice o3 c q3, .slice o2 2 q2] 47)).heap.size (w.alloc (.cells #[.int .i64 5, .slice o1 a q1, .slice o3 c q3, .slice o2 2 q2] 47)) _ from ((Below.refl _ _).alloc (Nat.le_refl _) _)) hb3)
      clear hb3
      go_wp2_with fail
      refine (G1.out _ _ (HB3.out.alloc HB3.out.size _) (rowI_new _ _ _ (by simp) [6, 5] 2 rfl rfl (by decide))).mono ?_
      rintro z w4 ⟨rfl, hb4⟩
      have HB4 := Lib.hid (bel_then (show Below (w.alloc (.cells #[.int .i64 5, .slice o1 a q1, .slice o3 c q3, .slice o2 2 q2] 47)).heap.size (w.alloc (.cells #[.int .i64 5, .slice o1 a q1, .slice o3 c q3, .slice o2 2 q2] 47)) _ from (HB3.out.alloc HB3.out.size _)) hb4)
      clear hb4
      go_wp2_with fail
      go_ret
      exact ⟨by rw [HX.out]; rfl, bel_then ((Below.refl w.heap.size w).alloc (Nat.le_refl _) _) HB4.out⟩
  · match hl : e.parts, h1 with
    | [x, y], _ =>
      have g0 := fun kv w' hb => hpart 0 0 x [] kv w' rfl (by rw [hl]; rfl) (by rw [hl]; simp) (by decide) hb
      have g1 := fun kv w' hb => hpart 1 1 y [6] kv w' rfl (by rw [hl]; rfl) (by rw [hl]; simp) (by decide) hb
      rw [hl] at hte
      rw [k] at hte ⊢
      simp only [k, hl, List.length_cons, List.length_nil, Nat.zero_add, Nat.reduceAdd] at g0 g1 ⊢
      obtain ⟨a, ha⟩ : ∃ a, a = e.names.length := ⟨_, rfl⟩
      obtain ⟨c, hc⟩ : ∃ c, c = e.ends.length := ⟨_, rfl⟩
      rw [← ha, ← hc] at g0 g1 ⊢
      have hteq : t = (hold x.text (([] : List Int).contains x.kind) ++ ⟨#[124]⟩) ++ hold y.text ([6].contains y.kind) := by rw [hte]; rfl
      obtain ⟨A, hA⟩ : ∃ z, z = hold x.text (([] : List Int).contains x.kind) := ⟨_, rfl⟩
      obtain ⟨C, hC⟩ : ∃ z, z = hold y.text ([6].contains y.kind) := ⟨_, rfl⟩
      rw [← hA] at g0
      rw [← hC] at g1
      rw [← hA, ← hC] at hteq
      have G0 := Lib.hid (fun kv w' (hb : Below (w.alloc (.cells #[.int .i64 6, .slice o1 a q1, .slice o3 c q3, .slice o2 2 q2] 47)).heap.size (w.alloc (.cells #[.int .i64 6, .slice o1 a q1, .slice o3 c q3, .slice o2 2 q2] 47)) w') hk => g0 kv w' (bel_then ((Below.refl w.heap.size w).alloc (Nat.le_refl _) _) hb) (box_kept hb) hk)
      have G1 := Lib.hid (fun kv w' (hb : Below (w.alloc (.cells #[.int .i64 6, .slice o1 a q1, .slice o3 c q3, .slice o2 2 q2] 47)).heap.size (w.alloc (.cells #[.int .i64 6, .slice o1 a q1, .slice o3 c q3, .slice o2 2 q2] 47)) w') hk => g1 kv w' (bel_then ((Below.refl w.heap.size w).alloc (Nat.le_refl _) _) hb) (box_kept hb) hk)
      rw [hteq] at hts
      simp only [ByteArray.size_append] at hts
      have hu0 : ¬ 9223372036854775807 < A.size + 1 := by omega
      have hu1 : ¬ 9223372036854775807 < A.size + 1 + C.size := by omega
      have HX := Lib.hid hteq
      clear hpart hte hsz hns hes sns ses hs hs2 hpr hr ht hts k ha hc ih hteq hl g0 g1 hA hC
      go_enter Tryz.func47, Tryz.ntmps47
      go_wp2_with fail
      refine (G0.out _ _ (Below.refl _ _) (rowI_nil _)).mono ?_
      rintro z w3 ⟨rfl, hb3⟩
      have HB3 := Lib.hid (bel_then (show Below (w.alloc (.cells #[.int .i64 6, .slice o1 a q1, .slice o3 c q3, .slice o2 2 q2] 47)).heap.size (w.alloc (.cells #[.int .i64 6, .slice o1 a q1, .slice o3 c q3, .slice o2 2 q2] 47)) _ from (Below.refl _ _)) hb3)
      clear hb3
      go_wp2_with fail
      refine (G1.out _ _ (HB3.out.alloc HB3.out.size _) (rowI_new _ _ _ (by simp) [6] 1 rfl rfl (by decide))).mono ?_
      rintro z w4 ⟨rfl, hb4⟩
      have HB4 := Lib.hid (bel_then (show Below (w.alloc (.cells #[.int .i64 6, .slice o1 a q1, .slice o3 c q3, .slice o2 2 q2] 47)).heap.size (w.alloc (.cells #[.int .i64 6, .slice o1 a q1, .slice o3 c q3, .slice o2 2 q2] 47)) _ from (HB3.out.alloc HB3.out.size _)) hb4)
      clear hb4
      go_wp2_with fail
      go_ret
      exact ⟨by rw [HX.out]; rfl, bel_then ((Below.refl w.heap.size w).alloc (Nat.le_refl _) _) HB4.out⟩
  · match hl : e.parts, h1 with
    | [x], _ =>
      have g0 := fun kv w' hb => hpart 0 0 x [5, 6] kv w' rfl (by rw [hl]; rfl) (by rw [hl]; simp) (by decide) hb
      rw [hl] at hte
      rw [k] at hte ⊢
      simp only [k, hl, List.length_cons, List.length_nil, Nat.zero_add, Nat.reduceAdd] at g0 ⊢
      obtain ⟨a, ha⟩ : ∃ a, a = e.names.length := ⟨_, rfl⟩
      obtain ⟨c, hc⟩ : ∃ c, c = e.ends.length := ⟨_, rfl⟩
      rw [← ha, ← hc] at g0 ⊢
      have hteq : t = hold x.text ([5, 6].contains x.kind) ++ ⟨#[42]⟩ := by rw [hte]; rfl
      obtain ⟨A, hA⟩ : ∃ z, z = hold x.text ([5, 6].contains x.kind) := ⟨_, rfl⟩
      rw [← hA] at g0
      rw [← hA] at hteq
      have G0 := Lib.hid (fun kv w' (hb : Below (w.alloc (.cells #[.int .i64 7, .slice o1 a q1, .slice o3 c q3, .slice o2 1 q2] 47)).heap.size (w.alloc (.cells #[.int .i64 7, .slice o1 a q1, .slice o3 c q3, .slice o2 1 q2] 47)) w') hk => g0 kv w' (bel_then ((Below.refl w.heap.size w).alloc (Nat.le_refl _) _) hb) (box_kept hb) hk)
      rw [hteq] at hts
      simp only [ByteArray.size_append] at hts
      have hu0 : ¬ 9223372036854775807 < A.size + 1 := by omega
      have HX := Lib.hid hteq
      clear hpart hte hsz hns hes sns ses hs hs2 hpr hr ht hts k ha hc ih hteq hl g0 hA
      go_enter Tryz.func47, Tryz.ntmps47
      go_wp2_with fail
      refine (G0.out _ _ ((Below.refl _ _).alloc (Nat.le_refl _) _) (rowI_new _ _ _ (by simp) [5, 6] 2 rfl rfl (by decide))).mono ?_
      rintro z w3 ⟨rfl, hb3⟩
      have HB3 := Lib.hid (bel_then (show Below (w.alloc (.cells #[.int .i64 7, .slice o1 a q1, .slice o3 c q3, .slice o2 1 q2] 47)).heap.size (w.alloc (.cells #[.int .i64 7, .slice o1 a q1, .slice o3 c q3, .slice o2 1 q2] 47)) _ from ((Below.refl _ _).alloc (Nat.le_refl _) _)) hb3)
      clear hb3
      go_wp2_with fail
      go_ret
      exact ⟨by rw [HX.out]; rfl, bel_then ((Below.refl w.heap.size w).alloc (Nat.le_refl _) _) HB3.out⟩
theorem pat_any (e : PT) (nv ev lv : Value) (w : World) (hs : e.size ≤ 100) (hpr : e.Okt) (hr : PtIs w e nv ev lv) :
    Calls Tryz.prog 47 #[.agg #[.int .i64 e.kind, nv, ev, lv]] w fun x w' => x = .returned (.string e.text) ∧ Below w.heap.size w w' := by
  have : ∀ N, PxIH N := by
    intro N
    induction N with
    | zero => intro e nv ev lv w h; have := e.size_pos; omega
    | succ N ih => exact pat_step N ih
  exact this e.size e nv ev lv w (Nat.le_refl _) hs hpr hr
end Go.Proofs.YtbanmggkfpnalaaGreatDoor

namespace Go.Proofs.YtbanmggkfpnalaaGreatDoor
open Go.RowKit Ru

inductive PT.Shn : PT → Prop
  | mk (k : Int) (ns es : List ByteArray) (l : List PT) (hn : Shorts ns) (he : Shorts es) (h : ∀ (i : Nat) (p : PT), l[i]? = some p → PT.Shn p) : PT.Shn (.mk k ns es l)
theorem PT.Shn.part {e p : PT} {i : Nat} (h : e.Shn) (hp : e.parts[i]? = some p) : p.Shn := by cases h with | mk k ns es l hn he h => exact h i p hp
theorem PT.Okt.of {e : PT} (hs : e.shp = true) (hn : e.Shn) (h : ∀ (i : Nat) (p : PT), e.parts[i]? = some p → p.Okt) : e.Okt := by
  cases hn with
  | mk k ns es l h1 h2 h3 => exact .mk k ns es l hs h1 h2 h
theorem vsp_ok : ∀ (N : Nat) (e : PT), e.size ≤ N → ∀ n d, (e.vsp n d).1 = true → e.Shn → e.Okt ∧ (e.vsp n d).2 = n + e.size ∧ n + e.size ≤ 60 := by
  intro N
  induction N with
  | zero => intro e h; have := e.size_pos; omega
  | succ N ih =>
    intro e hs n d h hn
    rw [PT.vsp_eq] at h ⊢
    split at h
    · cases h
    · rename_i hc
      rw [if_neg hc]
      have hsh : e.shp = true := by
        cases hx : e.shp with
        | false => exact absurd (.inr (.inr hx)) hc
        | true => rfl
      have hsz : e.size = PT.sizes e.parts + 1 := by cases e; rw [PT.size_mk]; rfl
      have all : ∀ (l : List PT) (m : Nat), PT.sizes l ≤ N → (∀ p ∈ l, p.Shn) → m ≤ 60 → (PT.vspL l m (d + 1)).1 = true → (∀ p ∈ l, p.Okt) ∧ (PT.vspL l m (d + 1)).2 = m + PT.sizes l ∧ m + PT.sizes l ≤ 60 := by
        intro l
        induction l with
        | nil => intro m _ _ hm _; rw [PT.vspL_nil, PT.sizes_nil]; exact ⟨fun p hp => by simp at hp, rfl, hm⟩
        | cons a l ihl =>
          intro m hl hsn hm h
          rw [PT.sizes_cons] at hl ⊢
          rw [PT.vspL_cons] at h ⊢
          split at h
          · rename_i ha
            rw [if_pos ha]
            obtain ⟨x1, x2, x3⟩ := ih a (by omega) m (d + 1) ha (hsn a (by simp))
            rw [x2] at h ⊢
            obtain ⟨y1, y2, y3⟩ := ihl (m + a.size) (by omega) (fun p hp => hsn p (by simp [hp])) x3 h
            refine ⟨fun p hp => ?_, by omega, by omega⟩
            rcases List.mem_cons.1 hp with rfl | hp
            · exact x1
            · exact y1 p hp
          · cases h
      obtain ⟨x1, x2, x3⟩ := all e.parts (n + 1) (by omega) (fun p hp => by obtain ⟨i, hi, rfl⟩ := List.getElem_of_mem hp; exact hn.part (List.getElem?_eq_getElem hi)) (by omega) h
      exact ⟨PT.Okt.of hsh hn (fun i p hp => x1 p (List.mem_of_getElem? hp)), by omega, by omega⟩
theorem validB_ok {e : PT} (h : e.validB = true) (hn : e.Shn) : e.Okt ∧ e.size ≤ 60 := by
  have := vsp_ok e.size e (Nat.le_refl _) 0 1 h hn
  exact ⟨this.1, by omega⟩
def patP (e : PT) : ByteArray := if e.validB = true then e.text else ⟨#[]⟩
set_option maxHeartbeats 4000000 in
set_option maxRecDepth 100000 in
theorem prPat_any (e : PT) (nv ev lv : Value) (w : World) (h : PtIs w e nv ev lv) (hf : e.Fit) (hn : e.Shn) :
    Calls Tryz.prog 17 #[.agg #[.int .i64 e.kind, nv, ev, lv]] w fun x w' => x = .returned (.string (patP e)) ∧ Below w.heap.size w w' := by
  have hm := fun w' (hb : Below w.heap.size w w') => prvalid_any e nv ev lv w' (h.moved hb) hf
  have hx := fun (hm : e.validB = true) w' (hb : Below w.heap.size w w') => pat_any e nv ev lv w' (by have := validB_ok hm hn; omega) (validB_ok hm hn).1 (h.moved hb)
  have hp : patP e = if e.validB = true then e.text else ⟨#[]⟩ := rfl
  obtain ⟨⟨o1, q1, rfl⟩, ⟨o3, q3, rfl⟩, ⟨o2, q2, rfl⟩⟩ := h.form
  obtain ⟨m, hmm⟩ : ∃ m, m = e.validB := ⟨_, rfl⟩
  rw [← hmm] at hm hx hp
  obtain ⟨k, hk⟩ : ∃ k, k = e.kind := ⟨_, rfl⟩
  obtain ⟨a, ha⟩ : ∃ a, a = e.names.length := ⟨_, rfl⟩
  obtain ⟨c, hc⟩ : ∃ c, c = e.ends.length := ⟨_, rfl⟩
  obtain ⟨b, hb⟩ : ∃ b, b = e.parts.length := ⟨_, rfl⟩
  rw [← hk, ← ha, ← hb, ← hc] at hm hx ⊢
  have HM := Lib.hid hm
  have HX := Lib.hid hx
  have HP := Lib.hid hp
  clear hm hx hp hmm hk ha hb hc h hf hn
  cases m with
  | false =>
    go_enter Tryz.func17, Tryz.ntmps17
    go_wp2_with fail
    refine (HM.out _ (bel_new (Below.refl _ _) _)).mono ?_
    rintro x w2 ⟨rfl, hb2⟩
    have HB2 := Lib.hid (bel_then (bel_new (Below.refl w.heap.size w) _) hb2)
    clear hb2
    go_wp2_with fail
    go_ret
    exact ⟨by rw [HP.out]; rfl, HB2.out⟩
  | true =>
    go_enter Tryz.func17, Tryz.ntmps17
    go_wp2_with fail
    refine (HM.out _ (bel_new (Below.refl _ _) _)).mono ?_
    rintro x w2 ⟨rfl, hb2⟩
    have HB2 := Lib.hid (bel_then (bel_new (Below.refl w.heap.size w) _) hb2)
    obtain ⟨c0, c1, c2, c3⟩ := cell4_of (box_kept hb2)
    clear hb2
    go_wp2_with fail
    refine (HX.out trivial _ HB2.out).mono ?_
    rintro x w3 ⟨rfl, hb3⟩
    have HB3 := Lib.hid (bel_then HB2.out hb3)
    clear hb3
    go_wp2_with fail
    go_ret
    exact ⟨by rw [HP.out]; rfl, HB3.out⟩
end Go.Proofs.YtbanmggkfpnalaaGreatDoor
