/- print.hasNone. -/
import Derived.Test.YtbanmggkfpnalaaGreatDoorPrRule
set_option linter.unusedVariables false
set_option linter.unusedSimpArgs false
namespace Go.Proofs.YtbanmggkfpnalaaGreatDoor
open Go.RowKit Ru

/-- a token's kind as text -/
def kindB (k : Int) : ByteArray := if k = 0 then ⟨#[105, 110, 116]⟩ else if k = 1 then ⟨#[99, 97, 108, 108]⟩ else ⟨#[114, 101, 116]⟩
/-- a token as text -/
def tokB (t : TK) : ByteArray := ((((((((⟨#[116, 111, 107, 32]⟩ ++ t.name) ++ ⟨#[32]⟩) ++ kindB t.kind) ++ ⟨#[32]⟩) ++ decB t.cls) ++ ⟨#[32, 61, 32, 47]⟩) ++ t.re.text) ++ ⟨#[47, 10]⟩)
/-- a token that may be -/
structure TkOk (t : TK) : Prop where
  nm : t.name.size ≤ 1000
  kd : t.kind = 0 ∨ t.kind = 1 ∨ t.kind = 2
  cl : 0 ≤ t.cls ∧ t.cls ≤ 31
  pr : t.re.prt = true
  sz : t.re.size ≤ 60
theorem kindB_size (k : Int) : (kindB k).size ≤ 4 := by
  unfold kindB
  split
  · show 3 ≤ 4; decide
  · split
    · show 4 ≤ 4; decide
    · show 3 ≤ 4; decide
theorem tokB_size {t : TK} (h : TkOk t) : (tokB t).size ≤ 40000 := by
  have a := re_size t.re.size t.re (Nat.le_refl _) h.pr
  have b := decB_size h.cl
  have c := h.nm
  have d := h.sz
  have e := kindB_size t.kind
  have z1 : (⟨#[116, 111, 107, 32]⟩ : ByteArray).size = 4 := rfl
  have z2 : (⟨#[32]⟩ : ByteArray).size = 1 := rfl
  have z3 : (⟨#[32, 61, 32, 47]⟩ : ByteArray).size = 4 := rfl
  have z4 : (⟨#[47, 10]⟩ : ByteArray).size = 2 := rfl
  unfold tokB
  simp only [ByteArray.size_append]
  omega
set_option maxHeartbeats 8000000 in
set_option maxRecDepth 100000 in
theorem prTok_any (t : TK) (sv lv : Value) (w : World) (ht : TkOk t) (hr : ReIs w t.re sv lv) (hT : TZ w) :
    Calls Tryz.prog 36 #[.agg #[.string t.name, .int .i64 t.kind, .int .i64 t.cls, .int .i64 t.re.kind, sv, lv]] w fun x w' => x = .returned (.string (tokB t)) ∧ Below w.heap.size w w' := by
  have h1 := fun w' => itoa_any t.cls w' ht.cl
  have h2 := fun w' (hb : Below w.heap.size w w') => expr_any t.re sv lv w' (by have := ht.sz; omega) ht.pr (hr.moved hb) (hT.moved hb)
  have a := re_size t.re.size t.re (Nat.le_refl _) ht.pr
  have b := decB_size ht.cl
  have c := ht.nm
  have d := ht.sz
  have htb : tokB t = ((((((((⟨#[116, 111, 107, 32]⟩ ++ t.name) ++ ⟨#[32]⟩) ++ kindB t.kind) ++ ⟨#[32]⟩) ++ decB t.cls) ++ ⟨#[32, 61, 32, 47]⟩) ++ t.re.text) ++ ⟨#[47, 10]⟩) := rfl
  have hkd := ht.kd
  obtain ⟨⟨o1, q1, rfl⟩, ⟨o2, q2, rfl⟩⟩ := hr.form
  obtain ⟨A, hA⟩ : ∃ n, n = t.name := ⟨_, rfl⟩
  obtain ⟨X, hX⟩ : ∃ n, n = t.re.text := ⟨_, rfl⟩
  obtain ⟨D, hD⟩ : ∃ D, D = decB t.cls := ⟨_, rfl⟩
  obtain ⟨kc, hkc⟩ : ∃ k, k = t.cls := ⟨_, rfl⟩
  obtain ⟨kk, hkk⟩ : ∃ k, k = t.kind := ⟨_, rfl⟩
  obtain ⟨rk, hrk⟩ : ∃ k, k = t.re.kind := ⟨_, rfl⟩
  obtain ⟨x1, hx1⟩ : ∃ k, k = t.re.set.length := ⟨_, rfl⟩
  obtain ⟨x2, hx2⟩ : ∃ k, k = t.re.parts.length := ⟨_, rfl⟩
  rw [← hD, ← hkc] at h1
  rw [← hX, ← hrk, ← hx1, ← hx2] at h2
  rw [← hA, ← hX, ← hD, ← hkk] at htb
  rw [← hX] at a
  rw [← hD] at b
  rw [← hA] at c
  rw [← hkk] at hkd
  rw [← hA, ← hkc, ← hkk, ← hrk, ← hx1, ← hx2]
  have HT := Lib.hid htb
  have H1 := Lib.hid h1
  have H2 := Lib.hid h2
  have s1 : X.size ≤ 30000 := by omega
  clear h1 h2 hA hX hD hkc hkk hrk hx1 hx2 ht hr hT htb a d
  rcases hkd with rfl | rfl | rfl
  · have HX := Lib.hid (show tokB t = ((((((((⟨#[116, 111, 107, 32]⟩ ++ A) ++ ⟨#[32]⟩) ++ ⟨#[105, 110, 116]⟩) ++ ⟨#[32]⟩) ++ D) ++ ⟨#[32, 61, 32, 47]⟩) ++ X) ++ ⟨#[47, 10]⟩) from HT.out)
    clear HT
    have hu0 : ¬ 9223372036854775807 < 4 + A.size := by omega
    have hu1 : ¬ 9223372036854775807 < 4 + A.size + 1 := by omega
    have hu2 : ¬ 9223372036854775807 < 4 + A.size + 1 + 3 := by omega
    have hu3 : ¬ 9223372036854775807 < 4 + A.size + 1 + 3 + 1 := by omega
    have hu4 : ¬ 9223372036854775807 < 4 + A.size + 1 + 3 + 1 + D.size := by omega
    have hu5 : ¬ 9223372036854775807 < 4 + A.size + 1 + 3 + 1 + D.size + 4 := by omega
    have hu6 : ¬ 9223372036854775807 < 4 + A.size + 1 + 3 + 1 + D.size + 4 + X.size := by omega
    have hu7 : ¬ 9223372036854775807 < 4 + A.size + 1 + 3 + 1 + D.size + 4 + X.size + 2 := by omega
    clear b c s1
    obtain ⟨W, hW⟩ : ∃ W, W = (w.alloc (.cells #[.string A, .int .i64 0, .int .i64 kc, .int .i64 rk, .slice o1 x1 q1, .slice o2 x2 q2] 61)).alloc (.cells #[.string ⟨#[105, 110, 116]⟩, .string ⟨#[99, 97, 108, 108]⟩, .string ⟨#[114, 101, 116]⟩] 109) := ⟨_, rfl⟩
    obtain ⟨hbW, hbx, hby⟩ := two_world w w (.cells #[.string A, .int .i64 0, .int .i64 kc, .int .i64 rk, .slice o1 x1 q1, .slice o2 x2 q2] 61) (.cells #[.string ⟨#[105, 110, 116]⟩, .string ⟨#[99, 97, 108, 108]⟩, .string ⟨#[114, 101, 116]⟩] 109) (Below.refl _ _)
    rw [← hW] at hbW hbx hby
    obtain ⟨ι, K, hne, hkb, hks⟩ := kept_family W
    have hcell : ∀ i, (K i).cell? ⟨w.heap.size, 0, none⟩ = some (.string A) ∧ (K i).cell? ⟨w.heap.size, 1, none⟩ = some (.int .i64 0) ∧ (K i).cell? ⟨w.heap.size, 2, none⟩ = some (.int .i64 kc) ∧ (K i).cell? ⟨w.heap.size, 3, none⟩ = some (.int .i64 rk) ∧ (K i).cell? ⟨w.heap.size, 4, none⟩ = some (.slice o1 x1 q1) ∧ (K i).cell? ⟨w.heap.size, 5, none⟩ = some (.slice o2 x2 q2) ∧ (K i).cell? ⟨w.heap.size + 1, 0, none⟩ = some (.string ⟨#[105, 110, 116]⟩) := fun i => by
      have g0 := bel_get (hkb i) hbx
      have g1 := bel_get (hkb i) hby
      simp [World.cell?, g0, g1]
    have KB := Lib.hid hkb
    have kS := hks _ (Below.refl _ _).drew
    have HBW := Lib.hid hbW
    have HW := Lib.hid hW
    have HA := Lib.hid (fun i => calls_kept hkb hks (i := i) ((H1.out (K i)).mono (fun e w' h => ⟨h.1, by rw [h.2]; exact Below.refl _ _⟩)))
    have HP := Lib.hid (fun i => calls_kept hkb hks (i := i) (H2.out (K i) (bel_then hbW (hkb i))))
    have j0 : ∀ i, (K i).cell? ⟨w.heap.size, 0, none⟩ = some (.string A) := fun i => (hcell i).1
    have j1 : ∀ i, (K i).cell? ⟨w.heap.size, 1, none⟩ = some (.int .i64 0) := fun i => (hcell i).2.1
    have j2 : ∀ i, (K i).cell? ⟨w.heap.size, 2, none⟩ = some (.int .i64 kc) := fun i => (hcell i).2.2.1
    have j3 : ∀ i, (K i).cell? ⟨w.heap.size, 3, none⟩ = some (.int .i64 rk) := fun i => (hcell i).2.2.2.1
    have j4 : ∀ i, (K i).cell? ⟨w.heap.size, 4, none⟩ = some (.slice o1 x1 q1) := fun i => (hcell i).2.2.2.2.1
    have j5 : ∀ i, (K i).cell? ⟨w.heap.size, 5, none⟩ = some (.slice o2 x2 q2) := fun i => (hcell i).2.2.2.2.2.1
    have j6 : ∀ i, (K i).cell? ⟨w.heap.size + 1, 0, none⟩ = some (.string ⟨#[105, 110, 116]⟩) := fun i => (hcell i).2.2.2.2.2.2
    clear hW hbW hbx hby hkb hks hcell
    go_enter Tryz.func36, Tryz.ntmps36
    go_upto_region 2 with (fail)
    rw [← HW.out]
    refine region_kept K (by kernel_rfl) (by kernel_rfl) kS ?_
    repeat (go_big_quiet_step (with_reducible first | exact HA.out _ | exact HP.out _))
    refine wpQuiet_nil ?_
    rintro _ ⟨iw, rfl⟩
    have HB6 := Lib.hid (bel_then HBW.out (KB.out iw))
    go_wp2_with fail
    go_ret
    exact ⟨by rw [HX.out]; rfl, HB6.out⟩
  · have HX := Lib.hid (show tokB t = ((((((((⟨#[116, 111, 107, 32]⟩ ++ A) ++ ⟨#[32]⟩) ++ ⟨#[99, 97, 108, 108]⟩) ++ ⟨#[32]⟩) ++ D) ++ ⟨#[32, 61, 32, 47]⟩) ++ X) ++ ⟨#[47, 10]⟩) from HT.out)
    clear HT
    have hu0 : ¬ 9223372036854775807 < 4 + A.size := by omega
    have hu1 : ¬ 9223372036854775807 < 4 + A.size + 1 := by omega
    have hu2 : ¬ 9223372036854775807 < 4 + A.size + 1 + 4 := by omega
    have hu3 : ¬ 9223372036854775807 < 4 + A.size + 1 + 4 + 1 := by omega
    have hu4 : ¬ 9223372036854775807 < 4 + A.size + 1 + 4 + 1 + D.size := by omega
    have hu5 : ¬ 9223372036854775807 < 4 + A.size + 1 + 4 + 1 + D.size + 4 := by omega
    have hu6 : ¬ 9223372036854775807 < 4 + A.size + 1 + 4 + 1 + D.size + 4 + X.size := by omega
    have hu7 : ¬ 9223372036854775807 < 4 + A.size + 1 + 4 + 1 + D.size + 4 + X.size + 2 := by omega
    clear b c s1
    obtain ⟨W, hW⟩ : ∃ W, W = (w.alloc (.cells #[.string A, .int .i64 1, .int .i64 kc, .int .i64 rk, .slice o1 x1 q1, .slice o2 x2 q2] 61)).alloc (.cells #[.string ⟨#[105, 110, 116]⟩, .string ⟨#[99, 97, 108, 108]⟩, .string ⟨#[114, 101, 116]⟩] 109) := ⟨_, rfl⟩
    obtain ⟨hbW, hbx, hby⟩ := two_world w w (.cells #[.string A, .int .i64 1, .int .i64 kc, .int .i64 rk, .slice o1 x1 q1, .slice o2 x2 q2] 61) (.cells #[.string ⟨#[105, 110, 116]⟩, .string ⟨#[99, 97, 108, 108]⟩, .string ⟨#[114, 101, 116]⟩] 109) (Below.refl _ _)
    rw [← hW] at hbW hbx hby
    obtain ⟨ι, K, hne, hkb, hks⟩ := kept_family W
    have hcell : ∀ i, (K i).cell? ⟨w.heap.size, 0, none⟩ = some (.string A) ∧ (K i).cell? ⟨w.heap.size, 1, none⟩ = some (.int .i64 1) ∧ (K i).cell? ⟨w.heap.size, 2, none⟩ = some (.int .i64 kc) ∧ (K i).cell? ⟨w.heap.size, 3, none⟩ = some (.int .i64 rk) ∧ (K i).cell? ⟨w.heap.size, 4, none⟩ = some (.slice o1 x1 q1) ∧ (K i).cell? ⟨w.heap.size, 5, none⟩ = some (.slice o2 x2 q2) ∧ (K i).cell? ⟨w.heap.size + 1, 1, none⟩ = some (.string ⟨#[99, 97, 108, 108]⟩) := fun i => by
      have g0 := bel_get (hkb i) hbx
      have g1 := bel_get (hkb i) hby
      simp [World.cell?, g0, g1]
    have KB := Lib.hid hkb
    have kS := hks _ (Below.refl _ _).drew
    have HBW := Lib.hid hbW
    have HW := Lib.hid hW
    have HA := Lib.hid (fun i => calls_kept hkb hks (i := i) ((H1.out (K i)).mono (fun e w' h => ⟨h.1, by rw [h.2]; exact Below.refl _ _⟩)))
    have HP := Lib.hid (fun i => calls_kept hkb hks (i := i) (H2.out (K i) (bel_then hbW (hkb i))))
    have j0 : ∀ i, (K i).cell? ⟨w.heap.size, 0, none⟩ = some (.string A) := fun i => (hcell i).1
    have j1 : ∀ i, (K i).cell? ⟨w.heap.size, 1, none⟩ = some (.int .i64 1) := fun i => (hcell i).2.1
    have j2 : ∀ i, (K i).cell? ⟨w.heap.size, 2, none⟩ = some (.int .i64 kc) := fun i => (hcell i).2.2.1
    have j3 : ∀ i, (K i).cell? ⟨w.heap.size, 3, none⟩ = some (.int .i64 rk) := fun i => (hcell i).2.2.2.1
    have j4 : ∀ i, (K i).cell? ⟨w.heap.size, 4, none⟩ = some (.slice o1 x1 q1) := fun i => (hcell i).2.2.2.2.1
    have j5 : ∀ i, (K i).cell? ⟨w.heap.size, 5, none⟩ = some (.slice o2 x2 q2) := fun i => (hcell i).2.2.2.2.2.1
    have j6 : ∀ i, (K i).cell? ⟨w.heap.size + 1, 1, none⟩ = some (.string ⟨#[99, 97, 108, 108]⟩) := fun i => (hcell i).2.2.2.2.2.2
    clear hW hbW hbx hby hkb hks hcell
    go_enter Tryz.func36, Tryz.ntmps36
    go_upto_region 2 with (fail)
    rw [← HW.out]
    refine region_kept K (by kernel_rfl) (by kernel_rfl) kS ?_
    repeat (go_big_quiet_step (with_reducible first | exact HA.out _ | exact HP.out _))
    refine wpQuiet_nil ?_
    rintro _ ⟨iw, rfl⟩
    have HB6 := Lib.hid (bel_then HBW.out (KB.out iw))
    go_wp2_with fail
    go_ret
    exact ⟨by rw [HX.out]; rfl, HB6.out⟩
  · have HX := Lib.hid (show tokB t = ((((((((⟨#[116, 111, 107, 32]⟩ ++ A) ++ ⟨#[32]⟩) ++ ⟨#[114, 101, 116]⟩) ++ ⟨#[32]⟩) ++ D) ++ ⟨#[32, 61, 32, 47]⟩) ++ X) ++ ⟨#[47, 10]⟩) from HT.out)
    clear HT
    have hu0 : ¬ 9223372036854775807 < 4 + A.size := by omega
    have hu1 : ¬ 9223372036854775807 < 4 + A.size + 1 := by omega
    have hu2 : ¬ 9223372036854775807 < 4 + A.size + 1 + 3 := by omega
    have hu3 : ¬ 9223372036854775807 < 4 + A.size + 1 + 3 + 1 := by omega
    have hu4 : ¬ 9223372036854775807 < 4 + A.size + 1 + 3 + 1 + D.size := by omega
    have hu5 : ¬ 9223372036854775807 < 4 + A.size + 1 + 3 + 1 + D.size + 4 := by omega
    have hu6 : ¬ 9223372036854775807 < 4 + A.size + 1 + 3 + 1 + D.size + 4 + X.size := by omega
    have hu7 : ¬ 9223372036854775807 < 4 + A.size + 1 + 3 + 1 + D.size + 4 + X.size + 2 := by omega
    clear b c s1
    obtain ⟨W, hW⟩ : ∃ W, W = (w.alloc (.cells #[.string A, .int .i64 2, .int .i64 kc, .int .i64 rk, .slice o1 x1 q1, .slice o2 x2 q2] 61)).alloc (.cells #[.string ⟨#[105, 110, 116]⟩, .string ⟨#[99, 97, 108, 108]⟩, .string ⟨#[114, 101, 116]⟩] 109) := ⟨_, rfl⟩
    obtain ⟨hbW, hbx, hby⟩ := two_world w w (.cells #[.string A, .int .i64 2, .int .i64 kc, .int .i64 rk, .slice o1 x1 q1, .slice o2 x2 q2] 61) (.cells #[.string ⟨#[105, 110, 116]⟩, .string ⟨#[99, 97, 108, 108]⟩, .string ⟨#[114, 101, 116]⟩] 109) (Below.refl _ _)
    rw [← hW] at hbW hbx hby
    obtain ⟨ι, K, hne, hkb, hks⟩ := kept_family W
    have hcell : ∀ i, (K i).cell? ⟨w.heap.size, 0, none⟩ = some (.string A) ∧ (K i).cell? ⟨w.heap.size, 1, none⟩ = some (.int .i64 2) ∧ (K i).cell? ⟨w.heap.size, 2, none⟩ = some (.int .i64 kc) ∧ (K i).cell? ⟨w.heap.size, 3, none⟩ = some (.int .i64 rk) ∧ (K i).cell? ⟨w.heap.size, 4, none⟩ = some (.slice o1 x1 q1) ∧ (K i).cell? ⟨w.heap.size, 5, none⟩ = some (.slice o2 x2 q2) ∧ (K i).cell? ⟨w.heap.size + 1, 2, none⟩ = some (.string ⟨#[114, 101, 116]⟩) := fun i => by
      have g0 := bel_get (hkb i) hbx
      have g1 := bel_get (hkb i) hby
      simp [World.cell?, g0, g1]
    have KB := Lib.hid hkb
    have kS := hks _ (Below.refl _ _).drew
    have HBW := Lib.hid hbW
    have HW := Lib.hid hW
    have HA := Lib.hid (fun i => calls_kept hkb hks (i := i) ((H1.out (K i)).mono (fun e w' h => ⟨h.1, by rw [h.2]; exact Below.refl _ _⟩)))
    have HP := Lib.hid (fun i => calls_kept hkb hks (i := i) (H2.out (K i) (bel_then hbW (hkb i))))
    have j0 : ∀ i, (K i).cell? ⟨w.heap.size, 0, none⟩ = some (.string A) := fun i => (hcell i).1
    have j1 : ∀ i, (K i).cell? ⟨w.heap.size, 1, none⟩ = some (.int .i64 2) := fun i => (hcell i).2.1
    have j2 : ∀ i, (K i).cell? ⟨w.heap.size, 2, none⟩ = some (.int .i64 kc) := fun i => (hcell i).2.2.1
    have j3 : ∀ i, (K i).cell? ⟨w.heap.size, 3, none⟩ = some (.int .i64 rk) := fun i => (hcell i).2.2.2.1
    have j4 : ∀ i, (K i).cell? ⟨w.heap.size, 4, none⟩ = some (.slice o1 x1 q1) := fun i => (hcell i).2.2.2.2.1
    have j5 : ∀ i, (K i).cell? ⟨w.heap.size, 5, none⟩ = some (.slice o2 x2 q2) := fun i => (hcell i).2.2.2.2.2.1
    have j6 : ∀ i, (K i).cell? ⟨w.heap.size + 1, 2, none⟩ = some (.string ⟨#[114, 101, 116]⟩) := fun i => (hcell i).2.2.2.2.2.2
    clear hW hbW hbx hby hkb hks hcell
    go_enter Tryz.func36, Tryz.ntmps36
    go_upto_region 2 with (fail)
    rw [← HW.out]
    refine region_kept K (by kernel_rfl) (by kernel_rfl) kS ?_
    repeat (go_big_quiet_step (with_reducible first | exact HA.out _ | exact HP.out _))
    refine wpQuiet_nil ?_
    rintro _ ⟨iw, rfl⟩
    have HB6 := Lib.hid (bel_then HBW.out (KB.out iw))
    go_wp2_with fail
    go_ret
    exact ⟨by rw [HX.out]; rfl, HB6.out⟩
end Go.Proofs.YtbanmggkfpnalaaGreatDoor

set_option linter.unusedVariables false
set_option linter.unusedSimpArgs false
namespace Go.Proofs.YtbanmggkfpnalaaGreatDoor
open Go.RowKit Ru

namespace RE
mutual
/-- is there an expression that no text is -/
def nn : RE → Bool
  | .mk k s l => decide (k = 0) || nnL l
def nnL : List RE → Bool
  | [] => false
  | e :: l => nn e || nnL l
end
theorem nn_eq (e : RE) : e.nn = (decide (e.kind = 0) || nnL e.parts) := by cases e; rw [nn]; rfl
theorem nnL_iff (l : List RE) : nnL l = true ↔ ∃ e ∈ l, e.nn = true := by
  induction l with
  | nil => rw [nnL]; simp
  | cons a l ih => rw [nnL, Bool.or_eq_true, ih]; simp
theorem nnL_not {l : List RE} (h : ∀ i, i < l.length → ∀ p, l[i]? = some p → p.nn = false) : nnL l = false := by
  cases hb : nnL l with
  | false => rfl
  | true =>
    obtain ⟨e, he, h1⟩ := (nnL_iff l).1 hb
    obtain ⟨i, hi, rfl⟩ := List.getElem_of_mem he
    rw [h i hi _ (List.getElem?_eq_getElem hi)] at h1
    cases h1
end RE

set_option maxHeartbeats 4000000 in
set_option maxRecDepth 100000 in
theorem prNone_index (n : Nat) (o : Option Addr) (cap : Nat) (c0 c1 c2 : Nat → Value) (St : Nat → World → Prop) (Fin : Nat → World → Prop) (w : World) (hn : n ≤ 1000000)
    (hel : ∀ i, i < n → ∃ b off, o = some ⟨b, off, none⟩ ∧ ∀ w', St i w' → w'.cell? ⟨b, off + i * 3, none⟩ = some (c0 i) ∧ w'.cell? ⟨b, off + i * 3 + 1, none⟩ = some (c1 i) ∧ w'.cell? ⟨b, off + i * 3 + 2, none⟩ = some (c2 i))
    (hf : ∀ i w', i < n → St i w' → Calls Tryz.prog 34 #[.agg #[c0 i, c1 i, c2 i]] w' fun e w'' => (e = .returned (.bool true) ∧ Fin i w'') ∨ (e = .returned (.bool false) ∧ St (i + 1) w''))
    (h0 : St 0 w) :
    Calls Tryz.prog 96 #[.slice o n cap, .func (Fn.func 34) #[] #[]] w fun e w' => (∃ i : Nat, i < n ∧ e = .returned (.int .i64 i) ∧ Fin i w') ∨ (e = .returned (.int .i64 (-1)) ∧ St n w') := by
  have HEL := Lib.hid hel
  have HF := Lib.hid hf
  clear hel hf
  go_enter Tryz.func96, Tryz.ntmps96
  go_wp2_with fail
  go_loopg [8] n (fun g i wx => ∃ k : Nat, k + g = n ∧ i = .int .i64 k ∧ St k wx)
  case atStart => exact ⟨0, by omega, rfl, h0⟩
  case round =>
    obtain ⟨k, hkg, rfl, hSt⟩ := hrel
    obtain ⟨wo, rfl⟩ : ∃ wo : World, wo = wr := ⟨_, rfl⟩
    cases gk with
    | zero =>
      obtain rfl : k = n := by omega
      have hd : decide ((k : Int) < (k : Int)) = false := by simp
      have HS := Lib.hid hSt
      clear hSt
      go_wp2
      go_ret
      exact .inr ⟨rfl, HS.out⟩
    | succ g =>
      have hk : k < n := by omega
      have hd : decide ((k : Int) < (n : Int)) = true := by simp; omega
      have hk1 : (0 : Int) ≤ (k : Int) := by omega
      have hk2 : (k : Int) < (n : Int) := by omega
      have hk9 : (k : Int) ≤ 1000000 := by omega
      obtain ⟨b, off, rfl, hcell⟩ := HEL.out k hk
      obtain ⟨k0, k1, k2⟩ := hcell wo hSt
      have hc := HF.out k wo hk hSt
      obtain ⟨d0, hd0⟩ : ∃ d, d = c0 k := ⟨_, rfl⟩
      rw [← hd0] at k0 hc
      clear hd0
      obtain ⟨d1, hd1⟩ : ∃ d, d = c1 k := ⟨_, rfl⟩
      rw [← hd1] at k1 hc
      clear hd1
      obtain ⟨d2, hd2⟩ : ∃ d, d = c2 k := ⟨_, rfl⟩
      rw [← hd2] at k2 hc
      clear hd2
      have HC := Lib.hid hc
      clear hcell hSt hc
      go_wp2_with fail
      refine HC.out.mono ?_
      rintro e w2 (⟨rfl, hfin⟩ | ⟨rfl, hst⟩)
      · have HX := Lib.hid hfin
        clear hfin
        go_wp2
        go_ret
        exact .inl ⟨k, hk, rfl, HX.out⟩
      · have HX := Lib.hid hst
        clear hst
        go_wp2
        go_roundg g
        case measure => omega
        case rel => exact ⟨k + 1, by omega, by go_num, HX.out⟩

set_option maxHeartbeats 4000000 in
set_option maxRecDepth 100000 in
theorem prNone_contains (n : Nat) (o : Option Addr) (cap : Nat) (c0 c1 c2 : Nat → Value) (St : Nat → World → Prop) (Fin : Nat → World → Prop) (w : World) (hn : n ≤ 1000000)
    (hel : ∀ i, i < n → ∃ b off, o = some ⟨b, off, none⟩ ∧ ∀ w', St i w' → w'.cell? ⟨b, off + i * 3, none⟩ = some (c0 i) ∧ w'.cell? ⟨b, off + i * 3 + 1, none⟩ = some (c1 i) ∧ w'.cell? ⟨b, off + i * 3 + 2, none⟩ = some (c2 i))
    (hf : ∀ i w', i < n → St i w' → Calls Tryz.prog 34 #[.agg #[c0 i, c1 i, c2 i]] w' fun e w'' => (e = .returned (.bool true) ∧ Fin i w'') ∨ (e = .returned (.bool false) ∧ St (i + 1) w''))
    (h0 : St 0 w) :
    Calls Tryz.prog 60 #[.slice o n cap, .func (Fn.func 34) #[] #[]] w fun e w' => (∃ i : Nat, i < n ∧ e = .returned (.bool true) ∧ Fin i w') ∨ (e = .returned (.bool false) ∧ St n w') := by
  have hc := prNone_index n o cap c0 c1 c2 St Fin w hn hel hf h0
  have HC := Lib.hid hc
  clear hc hf hel
  go_enter Tryz.func60, Tryz.ntmps60
  go_wp2_with fail
  refine HC.out.mono ?_
  rintro e w2 (⟨i, hi, rfl, hfin⟩ | ⟨rfl, hst⟩)
  · have HX := Lib.hid hfin
    have hi0 : decide ((0 : Int) ≤ (i : Int)) = true := by simp
    have hi9 : (i : Int) ≤ 1000000 := by omega
    clear hfin
    go_wp2
    go_ret
    exact .inl ⟨i, hi, rfl, HX.out⟩
  · have HX := Lib.hid hst
    clear hst
    go_wp2
    go_ret
    exact .inr ⟨rfl, HX.out⟩

set_option maxHeartbeats 4000000 in
set_option maxRecDepth 100000 in
theorem hasNone_all : ∀ (N : Nat) (e : RE) (sv lv : Value) (w : World), e.size ≤ N → e.Fit → ReIs w e sv lv →
    Calls Tryz.prog 34 #[.agg #[.int .i64 e.kind, sv, lv]] w fun x w' => x = .returned (.bool e.nn) ∧ Below w.heap.size w w' := by
  intro N
  induction N with
  | zero => intro e sv lv w h; have := e.size_pos; omega
  | succ N ih =>
    intro e sv lv w hs hf hr
    obtain ⟨⟨o1, q1, rfl⟩, -⟩ := hr.form
    obtain ⟨o2, q2, c1, c2, rfl, hall⟩ := hr.all
    have hm1 := hf.sets
    have hnn := e.nn_eq
    by_cases h0 : e.kind = 0
    · rw [h0] at hnn ⊢
      have HX := Lib.hid (show e.nn = true by rw [hnn]; rfl)
      obtain ⟨a, ha⟩ : ∃ a, a = e.set.length := ⟨_, rfl⟩
      obtain ⟨b, hb⟩ : ∃ b, b = e.parts.length := ⟨_, rfl⟩
      rw [← ha, ← hb]
      clear ha hb hnn hall hr hf hm1 ih hs h0
      go_enter Tryz.func34, Tryz.ntmps34
      go_wp2_with fail
      go_ret
      exact ⟨by rw [HX.out]; rfl, bel_new (Below.refl _ _) _⟩
    · have hc := fun w' (hb : Below w.heap.size w w') => prNone_contains e.parts.length o2 q2 (fun i => .int .i64 (e.parts.getD i e).kind) c1 c2
        (fun i w'' => Below w.heap.size w w'' ∧ Below w'.heap.size w' w'' ∧ ∀ j, j < i → ∀ p, e.parts[j]? = some p → p.nn = false)
        (fun i w'' => Below w'.heap.size w' w'' ∧ ∃ p, e.parts[i]? = some p ∧ p.nn = true)
        w' (by omega) (fun i hi => by
          obtain ⟨p, hp⟩ : ∃ p, e.parts[i]? = some p := ⟨e.parts[i], List.getElem?_eq_getElem hi⟩
          obtain ⟨hrp, b, off, rfl, hbl, k0, k1, k2⟩ := hall i p hp
          have hg : e.parts.getD i e = p := by rw [List.getD, hp]; rfl
          refine ⟨b, off, rfl, fun w'' hSt => ?_⟩
          rw [hg]
          exact ⟨(hSt.1.cell hbl).trans k0, (hSt.1.cell hbl).trans k1, (hSt.1.cell hbl).trans k2⟩) (fun i w'' hi hSt => by
          obtain ⟨hb1, hb2, hno⟩ := hSt
          obtain ⟨p, hp⟩ : ∃ p, e.parts[i]? = some p := ⟨e.parts[i], List.getElem?_eq_getElem hi⟩
          have hg : e.parts.getD i e = p := by rw [List.getD, hp]; rfl
          have hsz := RE.size_part hp
          rw [hg]
          refine (ih p (c1 i) (c2 i) w'' (by omega) (hf.part hp) ((hall i p hp).1.moved hb1)).mono ?_
          rintro x w4 ⟨rfl, hb4⟩
          cases hn : p.nn with
          | true => exact .inl ⟨rfl, bel_then hb2 hb4, p, hp, hn⟩
          | false =>
            refine .inr ⟨rfl, bel_then hb1 hb4, bel_then hb2 hb4, fun j hj p' hp' => ?_⟩
            rcases Nat.lt_or_ge j i with h | h
            · exact hno j h p' hp'
            · obtain rfl : j = i := by omega
              rw [hp] at hp'; cases hp'; exact hn) ⟨hb, Below.refl _ _, fun j hj => by omega⟩
      have hd : (e.kind == 0) = false := by simpa using h0
      have HC := Lib.hid (fun w' hb => (hc w' hb).mono (R' := fun x w'' => x = .returned (.bool e.nn) ∧ Below w'.heap.size w' w'') (by
        rintro x w5 (⟨i, hi, rfl, hb5, p, hp, hn⟩ | ⟨rfl, -, hb5, hno⟩)
        · refine ⟨?_, hb5⟩
          rw [hnn, (RE.nnL_iff e.parts).2 ⟨p, List.mem_of_getElem? hp, hn⟩, Bool.or_true]
        · refine ⟨?_, hb5⟩
          rw [hnn, RE.nnL_not hno]
          simp [h0]))
      obtain ⟨a, ha⟩ : ∃ a, a = e.set.length := ⟨_, rfl⟩
      obtain ⟨b, hb⟩ : ∃ b, b = e.parts.length := ⟨_, rfl⟩
      obtain ⟨k, hk⟩ : ∃ b, b = e.kind := ⟨_, rfl⟩
      obtain ⟨r, hr'⟩ : ∃ b, b = e.nn := ⟨_, rfl⟩
      rw [← hb, ← hr'] at HC
      rw [← hk] at hd
      rw [← ha, ← hb, ← hk, ← hr']
      clear ha hb hk hr' hnn hall hr hf hm1 ih hs h0 hc
      go_enter Tryz.func34, Tryz.ntmps34
      go_wp2_with fail
      refine (HC.out _ (bel_new (Below.refl _ _) _)).mono ?_
      rintro x w2 ⟨rfl, hb2⟩
      have HB2 := Lib.hid (bel_then (bel_new (Below.refl w.heap.size w) _) hb2)
      clear hb2
      go_wp2_with fail
      go_ret
      exact ⟨rfl, HB2.out⟩
set_option maxHeartbeats 4000000 in
set_option maxRecDepth 100000 in
theorem src1_any (nm : ByteArray) (kd cl : Int) (e : RE) (sv lv : Value) (w : World) (hf : e.Fit) (hr : ReIs w e sv lv) :
    Calls Tryz.prog 33 #[.agg #[.string nm, .int .i64 kd, .int .i64 cl, .int .i64 e.kind, sv, lv]] w fun x w' => x = .returned (.bool e.nn) ∧ Below w.heap.size w w' := by
  have hc := fun w' (hb : Below w.heap.size w w') => hasNone_all e.size e sv lv w' (Nat.le_refl _) hf (hr.moved hb)
  obtain ⟨⟨o1, q1, rfl⟩, ⟨o2, q2, rfl⟩⟩ := hr.form
  have HC := Lib.hid hc
  obtain ⟨a, ha⟩ : ∃ a, a = e.set.length := ⟨_, rfl⟩
  obtain ⟨b, hb⟩ : ∃ b, b = e.parts.length := ⟨_, rfl⟩
  rw [← ha, ← hb] at HC ⊢
  clear hc hr hf ha hb
  go_enter Tryz.func33, Tryz.ntmps33
  go_wp2_with fail
  refine (HC.out _ (bel_new (Below.refl _ _) _)).mono ?_
  rintro x w2 ⟨rfl, hb2⟩
  have HB2 := Lib.hid (bel_then (bel_new (Below.refl w.heap.size w) _) hb2)
  clear hb2
  go_wp2_with fail
  go_ret
  exact ⟨rfl, HB2.out⟩

set_option maxHeartbeats 4000000 in
set_option maxRecDepth 100000 in
theorem prTokn_index (n : Nat) (o : Option Addr) (cap : Nat) (c0 c1 c2 c3 c4 c5 : Nat → Value) (St : Nat → World → Prop) (Fin : Nat → World → Prop) (w : World) (hn : n ≤ 1000000)
    (hel : ∀ i, i < n → ∃ b off, o = some ⟨b, off, none⟩ ∧ ∀ w', St i w' → w'.cell? ⟨b, off + i * 6, none⟩ = some (c0 i) ∧ w'.cell? ⟨b, off + i * 6 + 1, none⟩ = some (c1 i) ∧ w'.cell? ⟨b, off + i * 6 + 2, none⟩ = some (c2 i) ∧ w'.cell? ⟨b, off + i * 6 + 3, none⟩ = some (c3 i) ∧ w'.cell? ⟨b, off + i * 6 + 4, none⟩ = some (c4 i) ∧ w'.cell? ⟨b, off + i * 6 + 5, none⟩ = some (c5 i))
    (hf : ∀ i w', i < n → St i w' → Calls Tryz.prog 33 #[.agg #[c0 i, c1 i, c2 i, c3 i, c4 i, c5 i]] w' fun e w'' => (e = .returned (.bool true) ∧ Fin i w'') ∨ (e = .returned (.bool false) ∧ St (i + 1) w''))
    (h0 : St 0 w) :
    Calls Tryz.prog 72 #[.slice o n cap, .func (Fn.func 33) #[] #[]] w fun e w' => (∃ i : Nat, i < n ∧ e = .returned (.int .i64 i) ∧ Fin i w') ∨ (e = .returned (.int .i64 (-1)) ∧ St n w') := by
  have HEL := Lib.hid hel
  have HF := Lib.hid hf
  clear hel hf
  go_enter Tryz.func72, Tryz.ntmps72
  go_wp2_with fail
  go_loopg [8] n (fun g i wx => ∃ k : Nat, k + g = n ∧ i = .int .i64 k ∧ St k wx)
  case atStart => exact ⟨0, by omega, rfl, h0⟩
  case round =>
    obtain ⟨k, hkg, rfl, hSt⟩ := hrel
    obtain ⟨wo, rfl⟩ : ∃ wo : World, wo = wr := ⟨_, rfl⟩
    cases gk with
    | zero =>
      obtain rfl : k = n := by omega
      have hd : decide ((k : Int) < (k : Int)) = false := by simp
      have HS := Lib.hid hSt
      clear hSt
      go_wp2
      go_ret
      exact .inr ⟨rfl, HS.out⟩
    | succ g =>
      have hk : k < n := by omega
      have hd : decide ((k : Int) < (n : Int)) = true := by simp; omega
      have hk1 : (0 : Int) ≤ (k : Int) := by omega
      have hk2 : (k : Int) < (n : Int) := by omega
      have hk9 : (k : Int) ≤ 1000000 := by omega
      obtain ⟨b, off, rfl, hcell⟩ := HEL.out k hk
      obtain ⟨k0, k1, k2, k3, k4, k5⟩ := hcell wo hSt
      have hc := HF.out k wo hk hSt
      obtain ⟨d0, hd0⟩ : ∃ d, d = c0 k := ⟨_, rfl⟩
      rw [← hd0] at k0 hc
      clear hd0
      obtain ⟨d1, hd1⟩ : ∃ d, d = c1 k := ⟨_, rfl⟩
      rw [← hd1] at k1 hc
      clear hd1
      obtain ⟨d2, hd2⟩ : ∃ d, d = c2 k := ⟨_, rfl⟩
      rw [← hd2] at k2 hc
      clear hd2
      obtain ⟨d3, hd3⟩ : ∃ d, d = c3 k := ⟨_, rfl⟩
      rw [← hd3] at k3 hc
      clear hd3
      obtain ⟨d4, hd4⟩ : ∃ d, d = c4 k := ⟨_, rfl⟩
      rw [← hd4] at k4 hc
      clear hd4
      obtain ⟨d5, hd5⟩ : ∃ d, d = c5 k := ⟨_, rfl⟩
      rw [← hd5] at k5 hc
      clear hd5
      have HC := Lib.hid hc
      clear hcell hSt hc
      go_wp2_with fail
      refine HC.out.mono ?_
      rintro e w2 (⟨rfl, hfin⟩ | ⟨rfl, hst⟩)
      · have HX := Lib.hid hfin
        clear hfin
        go_wp2
        go_ret
        exact .inl ⟨k, hk, rfl, HX.out⟩
      · have HX := Lib.hid hst
        clear hst
        go_wp2
        go_roundg g
        case measure => omega
        case rel => exact ⟨k + 1, by omega, by go_num, HX.out⟩

set_option maxHeartbeats 4000000 in
set_option maxRecDepth 100000 in
theorem prTokn_contains (n : Nat) (o : Option Addr) (cap : Nat) (c0 c1 c2 c3 c4 c5 : Nat → Value) (St : Nat → World → Prop) (Fin : Nat → World → Prop) (w : World) (hn : n ≤ 1000000)
    (hel : ∀ i, i < n → ∃ b off, o = some ⟨b, off, none⟩ ∧ ∀ w', St i w' → w'.cell? ⟨b, off + i * 6, none⟩ = some (c0 i) ∧ w'.cell? ⟨b, off + i * 6 + 1, none⟩ = some (c1 i) ∧ w'.cell? ⟨b, off + i * 6 + 2, none⟩ = some (c2 i) ∧ w'.cell? ⟨b, off + i * 6 + 3, none⟩ = some (c3 i) ∧ w'.cell? ⟨b, off + i * 6 + 4, none⟩ = some (c4 i) ∧ w'.cell? ⟨b, off + i * 6 + 5, none⟩ = some (c5 i))
    (hf : ∀ i w', i < n → St i w' → Calls Tryz.prog 33 #[.agg #[c0 i, c1 i, c2 i, c3 i, c4 i, c5 i]] w' fun e w'' => (e = .returned (.bool true) ∧ Fin i w'') ∨ (e = .returned (.bool false) ∧ St (i + 1) w''))
    (h0 : St 0 w) :
    Calls Tryz.prog 32 #[.slice o n cap, .func (Fn.func 33) #[] #[]] w fun e w' => (∃ i : Nat, i < n ∧ e = .returned (.bool true) ∧ Fin i w') ∨ (e = .returned (.bool false) ∧ St n w') := by
  have hc := prTokn_index n o cap c0 c1 c2 c3 c4 c5 St Fin w hn hel hf h0
  have HC := Lib.hid hc
  clear hc hf hel
  go_enter Tryz.func32, Tryz.ntmps32
  go_wp2_with fail
  refine HC.out.mono ?_
  rintro e w2 (⟨i, hi, rfl, hfin⟩ | ⟨rfl, hst⟩)
  · have HX := Lib.hid hfin
    have hi0 : decide ((0 : Int) ≤ (i : Int)) = true := by simp
    have hi9 : (i : Int) ≤ 1000000 := by omega
    clear hfin
    go_wp2
    go_ret
    exact .inl ⟨i, hi, rfl, HX.out⟩
  · have HX := Lib.hid hst
    clear hst
    go_wp2
    go_ret
    exact .inr ⟨rfl, HX.out⟩

/-- is there such an expression in the tokens -/
def nnT (T : List TK) : Bool := T.any fun t => t.re.nn
theorem tokNone_any (T : List TK) (v : Value) (w : World) (hT : TksAre w v T) (hTl : T.length ≤ 1000) (hf : TFit T) :
    Calls Tryz.prog 32 #[v, .func (Fn.func 33) #[] #[]] w fun x w' => x = .returned (.bool (nnT T)) ∧ Below w.heap.size w w' := by
  obtain ⟨o, cap, nm, kd, cl, rk, so, sn, sc, lo, ln, lc, rfl, hall⟩ := hT.all
  refine (prTokn_contains T.length o cap (fun i => .string (nm i)) (fun i => .int .i64 (kd i)) (fun i => .int .i64 (cl i)) (fun i => .int .i64 (rk i)) (fun i => .slice (so i) (sn i) (sc i)) (fun i => .slice (lo i) (ln i) (lc i))
        (fun i w'' => Below w.heap.size w w'' ∧ ∀ j, j < i → ∀ t, T[j]? = some t → t.re.nn = false)
        (fun i w'' => Below w.heap.size w w'' ∧ ∃ t, T[i]? = some t ∧ t.re.nn = true)
        w (by omega) (fun i hi => by
          obtain ⟨_, _, _, _, _, b, off, rfl, hbl, k0, k1, k2, k3, k4, k5⟩ := hall i T[i] (List.getElem?_eq_getElem hi)
          refine ⟨b, off, rfl, fun w'' hSt => ?_⟩
          exact ⟨(hSt.1.cell hbl).trans k0, (hSt.1.cell hbl).trans k1, (hSt.1.cell hbl).trans k2, (hSt.1.cell hbl).trans k3, (hSt.1.cell hbl).trans k4, (hSt.1.cell hbl).trans k5⟩) (fun i w'' hi hSt => by
          obtain ⟨hb1, hno⟩ := hSt
          obtain ⟨_, _, _, hk, hre, _⟩ := hall i T[i] (List.getElem?_eq_getElem hi)
          have := src1_any (nm i) (kd i) (cl i) T[i].re _ _ w'' (hf i _ (List.getElem?_eq_getElem hi)).2 (hre.moved hb1)
          rw [← hk] at this
          refine this.mono ?_
          rintro x w4 ⟨rfl, hb4⟩
          cases hn : T[i].re.nn with
          | true => exact .inl ⟨rfl, bel_then hb1 hb4, T[i], List.getElem?_eq_getElem hi, hn⟩
          | false =>
            refine .inr ⟨rfl, bel_then hb1 hb4, fun j hj p' hp' => ?_⟩
            rcases Nat.lt_or_ge j i with h | h
            · exact hno j h p' hp'
            · obtain rfl : j = i := by omega
              rw [List.getElem?_eq_getElem hi] at hp'; cases hp'; exact hn) ⟨Below.refl _ _, fun j hj => by omega⟩).mono ?_
  rintro x w5 (⟨i, hi, rfl, hb5, p, hp, hn⟩ | ⟨rfl, hb5, hno⟩)
  · refine ⟨?_, hb5⟩
    have : nnT T = true := by unfold nnT; rw [List.any_eq_true]; exact ⟨p, List.mem_of_getElem? hp, hn⟩
    rw [this]
  · refine ⟨?_, hb5⟩
    have : nnT T = false := by
      unfold nnT
      rw [List.any_eq_false]
      intro t ht
      obtain ⟨i, hi, rfl⟩ := List.getElem_of_mem ht
      rw [hno i hi _ (List.getElem?_eq_getElem hi)]
      decide
    rw [this]
end Go.Proofs.YtbanmggkfpnalaaGreatDoor
