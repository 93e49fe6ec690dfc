/- PrintGrammars' walk: a grammar has the text that the document says, or the error. -/
import Derived.Test.YtbanmggkfpnalaaGreatDoorRefNum
import Derived.Deep.RegionHeld3
import Derived.Deep.CutBlock
import Derived.Deep.DeepCutAuto
import Derived.Test.YtbanmggkfpnalaaGreatDoorGMkW
set_option linter.unusedVariables false
set_option linter.unusedSimpArgs false
namespace Go.Proofs.YtbanmggkfpnalaaGreatDoor
open Go.RowKit Ru

theorem kp6 {w w' : World} {p : Nat} {x1 x2 x3 x4 x5 x6 : Value} (hb : Below w.heap.size w w') (h1 : w.cell? ⟨p, 0, none⟩ = some x1) (h2 : w.cell? ⟨p, 1, none⟩ = some x2) (h3 : w.cell? ⟨p, 2, none⟩ = some x3) (h4 : w.cell? ⟨p, 3, none⟩ = some x4) (h5 : w.cell? ⟨p, 4, none⟩ = some x5) (h6 : w.cell? ⟨p, 5, none⟩ = some x6) :
    w'.cell? ⟨p, 0, none⟩ = some x1 ∧ w'.cell? ⟨p, 1, none⟩ = some x2 ∧ w'.cell? ⟨p, 2, none⟩ = some x3 ∧ w'.cell? ⟨p, 3, none⟩ = some x4 ∧ w'.cell? ⟨p, 4, none⟩ = some x5 ∧ w'.cell? ⟨p, 5, none⟩ = some x6 :=
  ⟨cell_later hb h1, cell_later hb h2, cell_later hb h3, cell_later hb h4, cell_later hb h5, cell_later hb h6⟩
theorem kind_cell (w : World) (k : Nat) (h : k < 3) : (w.alloc (.cells #[.string ⟨#[105, 110, 116]⟩, .string ⟨#[99, 97, 108, 108]⟩, .string ⟨#[114, 101, 116]⟩] 9)).cell? ⟨w.heap.size, k, none⟩ = some (.string (kindB (k : Int))) := by
  rw [World.cell?_alloc_mark]
  have : ∀ k : Nat, k < 3 → (#[Value.string ⟨#[105, 110, 116]⟩, .string ⟨#[99, 97, 108, 108]⟩, .string ⟨#[114, 101, 116]⟩] : Array Value)[k]? = some (.string (kindB (k : Int))) := by
    intro k h
    match k, h with
    | 0, _ => rfl
    | 1, _ => rfl
    | 2, _ => rfl
  exact this k h
theorem cats_le {α : Type} (f : α → ByteArray) (b N : Nat) (l : List α) (hb : ∀ x ∈ l, (f x).size ≤ b) (hl : l.length ≤ N) (k : Nat) : (catB ((l.take k).map f)).size ≤ b * N := by
  have h := catB_le b ((l.take k).map f) (fun y hy => by
    obtain ⟨x, hx, rfl⟩ := List.mem_map.1 hy
    exact hb x (List.mem_of_mem_take hx))
  rw [List.length_map] at h
  have h2 : (l.take k).length ≤ N := by rw [List.length_take]; omega
  exact Nat.le_trans h (Nat.mul_le_mul_left _ h2)
theorem cat_nil (A : ByteArray) : A ++ catB [] = A := by apply ByteArray.ext; simp [catB]
theorem step_eq (C J X : ByteArray) : ((((C ++ ⟨#[32]⟩) ++ ⟨#[94, 32, 123]⟩) ++ J) ++ ⟨#[125, 32]⟩) ++ X = C ++ (((⟨#[32, 94, 32]⟩ ++ ((⟨#[123]⟩ ++ J) ++ ⟨#[125]⟩)) ++ ⟨#[32]⟩) ++ X) := by
  have a : (⟨#[32]⟩ ++ ⟨#[94, 32, 123]⟩ : ByteArray) = ⟨#[32, 94, 32]⟩ ++ ⟨#[123]⟩ := rfl
  have b : (⟨#[125, 32]⟩ : ByteArray) = ⟨#[125]⟩ ++ ⟨#[32]⟩ := rfl
  have e : (C ++ ⟨#[32]⟩) ++ ⟨#[94, 32, 123]⟩ = C ++ (⟨#[32, 94, 32]⟩ ++ ⟨#[123]⟩) := by rw [ByteArray.append_assoc, a]
  rw [b, e]
  simp only [ByteArray.append_assoc]
set_option maxHeartbeats 32000000 in
set_option maxRecDepth 100000 in
theorem rprint_any (T : List TK) (R : List RU) (tv rv : Value) (w : World) (hT : TksAre w tv T) (hR : RusAre w rv R) (hG : FewG T R) :
    Calls Tryz.prog 15 #[.agg #[tv, rv]] w fun e w' => e = .returned (.tuple #[.string (srcB T R).1, .int .i64 (srcB T R).2]) ∧ Below w.heap.size w w' := by
  have hck := fun w' (hb : Below w.heap.size w w') => rchk_any T R tv rv w' (hT.moved hb) (hR.moved hb) hG
  have hok := fun (h : (chkE T R).1 = 0) => chk_ok h hG.rf
  have hs : srcB T R = if (chkE T R).1 ≠ 0 then (⟨#[]⟩, (chkE T R).1) else if nnT T = true then (⟨#[]⟩, 1)
    else if 4000 < (catB (T.map tokB) ++ catB (R.map ruleB)).size then (⟨#[]⟩, 6) else (catB (T.map tokB) ++ catB (R.map ruleB), 0) := rfl
  obtain ⟨ot, ct, nmx, kdx, clx, rkx, sox, snx, scx, lox, lnx, lcx, htv, hall⟩ := hT.all
  obtain ⟨orr, cr, hrv⟩ := hR.form
  have HGET := Lib.hid (fun (i : Nat) (s : RU) (h : R[i]? = some s) => hR.get h)
  subst htv hrv
  obtain ⟨S, hS⟩ : ∃ S, S = srcB T R := ⟨_, rfl⟩
  obtain ⟨ck, hck1⟩ : ∃ A, A = (chkE T R).1 := ⟨_, rfl⟩
  obtain ⟨ck2, hck2⟩ : ∃ A, A = (chkE T R).2 := ⟨_, rfl⟩
  obtain ⟨n, hn⟩ : ∃ A, A = T.length := ⟨_, rfl⟩
  obtain ⟨m, hm⟩ : ∃ A, A = R.length := ⟨_, rfl⟩
  rw [← hck1, ← hck2, ← hn, ← hm] at hck
  rw [← hck1] at hok
  rw [← hS, ← hck1] at hs
  rw [← hS, ← hn, ← hm]
  have HCK := Lib.hid hck
  have HOK := Lib.hid hok
  have HS := Lib.hid hs
  have HALL := Lib.hid hall
  have HN := Lib.hid (And.intro hn hm)
  have HG := Lib.hid hG
  have hn20 : n ≤ 20 := by have := hG.tl; omega
  have hm10 : m ≤ 10 := by have := hG.rl; omega
  clear hck hok hs hall hT hR hG hS hck1 hck2 hn hm
  by_cases hk0 : ck = 0
  case neg =>
    have d : (ck != 0) = true := by simpa using hk0
    have HX := Lib.hid (HS.out.trans (if_pos hk0))
    clear hk0
    go_enter Tryz.func15, Tryz.ntmps15
    go_wp2_with fail
    refine (HCK.out _ (bel_new (Below.refl _ _) _)).mono ?_
    rintro x w2 ⟨rfl, hb2⟩
    have HB2 := Lib.hid (bel_then (bel_new (Below.refl w.heap.size w) _) hb2)
    clear hb2
    go_wp2_with fail
    go_ret2
    exact ⟨by rw [HX.out]; rfl, HB2.out⟩
  subst hk0
  have HS1 := Lib.hid (HS.out.trans (if_neg (by simp)))
  have HOT := Lib.hid (HOK.out rfl).1
  have HOR := Lib.hid (HOK.out rfl).2
  clear HS HOK
  go_enter Tryz.func15, Tryz.ntmps15
  go_wp2_with fail
  refine (HCK.out _ (bel_new (Below.refl _ _) _)).mono ?_
  rintro x w2 ⟨rfl, hb2⟩
  have HB2 := Lib.hid (bel_then (bel_new (Below.refl w.heap.size w) _) hb2)
  have hbx := box_kept hb2
  have c0 : w2.cell? ⟨w.heap.size, 0, none⟩ = some (.slice ot n ct) := by simp [World.cell?, hbx]
  have c1 : w2.cell? ⟨w.heap.size, 1, none⟩ = some (.slice orr m cr) := by simp [World.cell?, hbx]
  have HC0 := Lib.hid (And.intro c0 c1)
  clear hb2 hbx c0 c1
  go_upto_region 6 with (fail)
  go_loopg [6, 7] n (fun g s6 s7 wx => ∃ k : Nat, k + g = n ∧ s7 = .int .i64 (k : Int) ∧ s6 = .string (catB ((T.take k).map tokB)) ∧ (∀ i t, i < k → T[i]? = some t → t.re.nn = false) ∧ Below w.heap.size w wx ∧ wx.cell? ⟨w.heap.size, 0, none⟩ = some (.slice ot n ct) ∧ wx.cell? ⟨w.heap.size, 1, none⟩ = some (.slice orr m cr))
  case atStart => exact ⟨0, by omega, rfl, rfl, fun i t h => by omega, HB2.out, HC0.out.1, HC0.out.2⟩
  case round =>
    obtain ⟨k, hkg, rfl, rfl, hno, hbel, e0, e1⟩ := hrel
    have HBE := Lib.hid hbel
    have HNO := Lib.hid hno
    have hCs : (catB ((T.take k).map tokB)).size ≤ 40000 * 16 := cats_le tokB 40000 16 T (fun x hx => tokB_size (HOT.out.2 x hx)) HOT.out.1 k
    obtain ⟨C, hC⟩ : ∃ C, C = catB ((T.take k).map tokB) := ⟨_, rfl⟩
    rw [← hC] at hCs ⊢
    have HC := Lib.hid hC
    clear hno hC
    cases gk with
    | succ g =>
      have hk : k < n := by omega
      have y1 : decide ((k : Int) < (n : Int)) = true := by simp; omega
      have y2 : decide (k < n) = true := by simpa using hk
      have hk1 : (0 : Int) ≤ (k : Int) := by omega
      have hk2 : (k : Int) < (n : Int) := by omega
      obtain ⟨t, hp⟩ : ∃ p, T[k]? = some p := ⟨_, List.getElem?_eq_getElem (by have := HN.out.1; omega)⟩
      obtain ⟨q1, q2, q3, q4, hre, b0, off, rfl, hbl, k0, k1, k2', k3, k4, k5⟩ := HALL.out k t hp
      have hok := HOT.out.2 t (List.mem_of_getElem? hp)
      have htb : tokB t = ((((((((⟨#[116, 111, 107, 32]⟩ ++ t.name) ++ ⟨#[32]⟩) ++ kindB t.kind) ++ ⟨#[32]⟩) ++ decB t.cls) ++ ⟨#[32, 61, 32, 47]⟩) ++ t.re.text) ++ ⟨#[47, 10]⟩) := rfl
      have hno1 := fun w' (hb : Below w.heap.size w w') => rnone_all t.re.size t.re _ _ w' (Nat.le_refl _) (by have := hok.sz; omega) (hre.moved hb)
      have hre1 := fun w' (hb : Below w.heap.size w w') => re_all t.re.size t.re _ _ w' (Nat.le_refl _) (by have := hok.sz; omega) hok.pr (hre.moved hb)
      have hdc := fun w' => rdec_any t.cls w' hok.cl
      have z1 := re_size t.re.size t.re (Nat.le_refl _) hok.pr
      have z2 := decB_size hok.cl
      have z3 := hok.nm
      have z4 := hok.sz
      have z5 := kindB_size t.kind
      obtain ⟨x1, hx1⟩ : ∃ x : Nat, t.kind = (x : Int) ∧ x < 3 := by
        rcases hok.kd with h | h | h
        · exact ⟨0, h, by decide⟩
        · exact ⟨1, h, by decide⟩
        · exact ⟨2, h, by decide⟩
      have hkc := fun w' => kind_cell w' x1 hx1.2
      have HIT := Lib.hid (fun (h : t.re.nn = true) => show nnT T = true from List.any_eq_true.2 ⟨t, List.mem_of_getElem? hp, h⟩)
      have HTN := Lib.hid (show catB ((T.take (k + 1)).map tokB) = C ++ tokB t by rw [take_snoc T tokB k t hp, catB_snoc, ← HC.out])
      rw [← q4] at hno1 hre1
      rw [hx1.1] at htb z5
      rw [q2, hx1.1] at k1
      rw [← hbel.cell hbl] at k0 k1 k2' k3 k4 k5
      rw [q3] at k2'
      rw [q1] at k0
      obtain ⟨x0, hx0⟩ : ∃ x, x = t.name := ⟨_, rfl⟩
      obtain ⟨x2, hx2⟩ : ∃ x, x = t.cls := ⟨_, rfl⟩
      obtain ⟨x3, hx3⟩ : ∃ x, x = rkx k := ⟨_, rfl⟩
      obtain ⟨x4, hx4⟩ : ∃ x, x = sox k := ⟨_, rfl⟩
      obtain ⟨x5, hx5⟩ : ∃ x, x = snx k := ⟨_, rfl⟩
      obtain ⟨x6, hx6⟩ : ∃ x, x = scx k := ⟨_, rfl⟩
      obtain ⟨x7, hx7⟩ : ∃ x, x = lox k := ⟨_, rfl⟩
      obtain ⟨x8, hx8⟩ : ∃ x, x = lnx k := ⟨_, rfl⟩
      obtain ⟨x9, hx9⟩ : ∃ x, x = lcx k := ⟨_, rfl⟩
      obtain ⟨X, hX⟩ : ∃ x, x = t.re.text := ⟨_, rfl⟩
      obtain ⟨D, hD⟩ : ∃ x, x = decB t.cls := ⟨_, rfl⟩
      obtain ⟨KB, hKB⟩ : ∃ x, x = kindB (x1 : Int) := ⟨_, rfl⟩
      obtain ⟨TB, hTB⟩ : ∃ x, x = tokB t := ⟨_, rfl⟩
      obtain ⟨nb, hnb⟩ : ∃ x, x = t.re.nn := ⟨_, rfl⟩
      rw [← hTB] at HTN
      rw [← hTB, ← hx0, ← hX, ← hD, ← hKB] at htb
      rw [← hnb] at HIT
      rw [← hX] at hre1 z1
      rw [← hnb] at hno1
      rw [← hD] at hdc z2
      rw [← hx2] at hdc k2'
      rw [← hKB] at z5 hkc
      rw [← hx0] at z3 k0
      rw [← hx3, ← hx4, ← hx5, ← hx6, ← hx7, ← hx8, ← hx9] at hno1 hre1
      rw [← hx3] at k3
      rw [← hx4, ← hx5, ← hx6] at k4
      rw [← hx7, ← hx8, ← hx9] at k5
      have hi1 : (0 : Int) ≤ (x1 : Int) := by omega
      have hi2 : (x1 : Int) < 3 := by have := hx1.2; omega
      have hu0 : ¬ 9223372036854775807 < C.size + 4 := by omega
      have hu1 : ¬ 9223372036854775807 < C.size + 4 + x0.size := by omega
      have hu2 : ¬ 9223372036854775807 < C.size + 4 + x0.size + 1 := by omega
      have hu3 : ¬ 9223372036854775807 < C.size + 4 + x0.size + 1 + KB.size := by omega
      have hu4 : ¬ 9223372036854775807 < C.size + 4 + x0.size + 1 + KB.size + 1 := by omega
      have hu5 : ¬ 9223372036854775807 < C.size + 4 + x0.size + 1 + KB.size + 1 + D.size := by omega
      have hu6 : ¬ 9223372036854775807 < C.size + 4 + x0.size + 1 + KB.size + 1 + D.size + 4 := by omega
      have hu7 : ¬ 9223372036854775807 < C.size + 4 + x0.size + 1 + KB.size + 1 + D.size + 4 + X.size := by omega
      have hu8 : ¬ 9223372036854775807 < C.size + 4 + x0.size + 1 + KB.size + 1 + D.size + 4 + X.size + 2 := by omega
      have HNB := Lib.hid hnb
      have HNN := Lib.hid hno1
      have HRE := Lib.hid hre1
      have HDC := Lib.hid hdc
      have HKC := Lib.hid hkc
      have HTB := Lib.hid htb
      have HP := Lib.hid hp
      obtain ⟨wC, hwC⟩ : ∃ wC, wC = wr.alloc (.cells #[.string x0, .int .i64 (x1 : Int), .int .i64 x2, .int .i64 x3, .slice x4 x5 x6, .slice x7 x8 x9] 61) := ⟨_, rfl⟩
      have HWC := Lib.hid (show Below w.heap.size w wC ∧ wC.cell? ⟨w.heap.size, 0, none⟩ = some (.slice (some ⟨b0, off, none⟩) n ct) ∧ wC.cell? ⟨w.heap.size, 1, none⟩ = some (.slice orr m cr) ∧ wC.cell? ⟨wr.heap.size, 0, none⟩ = some (.string x0) ∧ wC.cell? ⟨wr.heap.size, 1, none⟩ = some (.int .i64 (x1 : Int)) ∧ wC.cell? ⟨wr.heap.size, 2, none⟩ = some (.int .i64 x2) ∧ wC.cell? ⟨wr.heap.size, 3, none⟩ = some (.int .i64 x3) ∧ wC.cell? ⟨wr.heap.size, 4, none⟩ = some (.slice x4 x5 x6) ∧ wC.cell? ⟨wr.heap.size, 5, none⟩ = some (.slice x7 x8 x9) by
        rw [hwC]
        exact ⟨bel_new HBE.out _, cell_later (bel_new (Below.refl _ _) _) e0, cell_later (bel_new (Below.refl _ _) _) e1, by simp [go_sem], by simp [go_sem], by simp [go_sem], by simp [go_sem], by simp [go_sem], by simp [go_sem]⟩)
      have hlt0 := hp_ltc e0
      clear hno1 hre1 hdc hkc htb hp hre hbl hbel q1 q2 q3 q4 hx0 hx2 hx3 hx4 hx5 hx6 hx7 hx8 hx9 hX hD hKB hTB hnb z1 z2 z3 z4 z5 hok hx1 hCs
      go_wp2_with fail
      rw [← hwC]
      clear hwC k0 k1 k2' k3 k4 k5 e0 e1 hlt0
      obtain ⟨hbC, c0, c1, c2, c3, c4, c5, c6, c7⟩ := HWC.out
      have HBC := Lib.hid hbC
      clear hbC
      go_wp2_with fail
      refine (HNN.out _ HBC.out).mono ?_
      rintro x w4 ⟨rfl, hb4⟩
      have HB4 := Lib.hid (bel_then HBC.out hb4)
      replace c0 := cell_later hb4 c0
      replace c1 := cell_later hb4 c1
      replace c2 := cell_later hb4 c2
      replace c3 := cell_later hb4 c3
      replace c4 := cell_later hb4 c4
      replace c5 := cell_later hb4 c5
      replace c6 := cell_later hb4 c6
      replace c7 := cell_later hb4 c7
      clear hb4
      cases nb with
      | true =>
        have HX := Lib.hid (HS1.out.trans (if_pos (HIT.out (by first | rfl | trivial))))
        clear HS1
        go_wp2_with fail
        go_ret2
        exact ⟨by rw [HX.out]; rfl, HB4.out⟩
      | false =>
        have HNX := Lib.hid (show ∀ i u, i < k + 1 → T[i]? = some u → u.re.nn = false from fun i u hi hu => by
          rcases Nat.lt_or_ge i k with h | h
          · exact HNO.out i u h hu
          · obtain rfl : i = k := by omega
            rw [HP.out] at hu; cases hu; exact HNB.out.symm)
        go_upto_region 11 with (fail)
        refine wp_region_noPanic ?_
        refine wp_region_held_drew (S := fun w' => w'.cell? ⟨wr.heap.size, 0, none⟩ = some (.string x0) ∧ w'.cell? ⟨wr.heap.size, 1, none⟩ = some (.int .i64 (x1 : Int)) ∧ w'.cell? ⟨wr.heap.size, 2, none⟩ = some (.int .i64 x2) ∧ w'.cell? ⟨wr.heap.size, 3, none⟩ = some (.int .i64 x3) ∧ w'.cell? ⟨wr.heap.size, 4, none⟩ = some (.slice x4 x5 x6) ∧ w'.cell? ⟨wr.heap.size, 5, none⟩ = some (.slice x7 x8 x9)) (by kernel_rfl) (kp6 (Below.refl _ _).drew c2 c3 c4 c5 c6 c7) (fun hS => ?_)
        refine wpAnyH_take (i := 0) (v := ?_) rfl (by kernel_rfl) (by kernel_rfl) (by kernel_rfl) (fun _ _ _ h => h) (Or.inl ⟨by rfl, ?_⟩) hS ?_
        rotate_left
        · intro w hSw; go_simp; try with_reducible rfl
        try simp only [Act.put, sp]
        refine wpAnyH_take (i := 1) (v := ?_) rfl (by kernel_rfl) (by kernel_rfl) (by kernel_rfl) (fun _ _ _ h => h) (Or.inl ⟨by rfl, ?_⟩) hS ?_
        rotate_left
        · intro w hSw; go_simp; try with_reducible rfl
        try simp only [Act.put, sp]
        refine wpAnyH_take (i := 2) (v := ?_) rfl (by kernel_rfl) (by kernel_rfl) (by kernel_rfl) (fun _ _ _ h => h) (Or.inl ⟨by rfl, ?_⟩) hS ?_
        rotate_left
        · intro w hSw; go_simp; try with_reducible rfl
        try simp only [Act.put, sp]
        refine wpAnyH_take (i := 3) (v := ?_) rfl (by kernel_rfl) (by kernel_rfl) (by kernel_rfl) (fun _ _ _ h => h) (Or.inl ⟨by rfl, ?_⟩) hS ?_
        rotate_left
        · intro w hSw; go_simp; try with_reducible rfl
        try simp only [Act.put, sp]
        refine wpAnyH_take (i := 4) (v := ?_) rfl (by kernel_rfl) (by kernel_rfl) (by kernel_rfl) (fun _ _ _ h => h) (Or.inl ⟨by rfl, ?_⟩) hS ?_
        rotate_left
        · intro w hSw; go_simp; try with_reducible rfl
        try simp only [Act.put, sp]
        refine wpAnyH_take (i := 5) (v := ?_) rfl (by kernel_rfl) (by kernel_rfl) (by kernel_rfl) (fun _ _ _ h => h) (Or.inl ⟨by rfl, ?_⟩) hS ?_
        rotate_left
        · intro w hSw; go_simp; try with_reducible rfl
        try simp only [Act.put, sp]
        refine wpAnyH_take (i := 7) (v := ?_) rfl (by kernel_rfl) (by kernel_rfl) (by kernel_rfl) (fun _ _ _ h => h) (Or.inl ⟨by rfl, ?_⟩) hS ?_
        rotate_left
        · intro w hSw; go_simp; try with_reducible rfl
        try simp only [Act.put, sp]
        refine wpAnyH_take (i := 8) (v := ?_) rfl (by kernel_rfl) (by kernel_rfl) (by kernel_rfl) (fun _ _ _ h => h) (Or.inl ⟨by rfl, ?_⟩) hS ?_
        rotate_left
        · intro w hSw; go_simp; try with_reducible rfl
        try simp only [Act.put, sp]
        refine wpAnyH_take (i := 13) (v := ?_) rfl (by kernel_rfl) (by kernel_rfl) (by kernel_rfl) (fun _ _ _ h => h) (Or.inl ⟨by rfl, ?_⟩) hS ?_
        rotate_left
        · intro w hSw; go_simp; try with_reducible rfl
        try simp only [Act.put, sp]
        refine wpAnyH_take (i := 14) (v := ?_) rfl (by kernel_rfl) (by kernel_rfl) (by kernel_rfl) (fun _ _ _ h => h) (Or.inl ⟨by rfl, ?_⟩) hS ?_
        rotate_left
        · intro w hSw; go_simp; try with_reducible rfl
        try simp only [Act.put, sp]
        refine wpAnyH_takeC (i := 15) (v := .string D) rfl (by kernel_rfl) (by kernel_rfl) (by kernel_rfl) (fun _ _ _ h => h) ⟨by rfl, fun w _ => ⟨_, _, by (first | rfl | (go_simp; try with_reducible rfl)), HDC.out w⟩⟩ hS ?_
        try simp only [Act.put, sp]
        refine wpAnyH_take (i := 18) (v := ?_) rfl (by kernel_rfl) (by kernel_rfl) (by kernel_rfl) (fun _ _ _ h => h) (Or.inl ⟨by rfl, ?_⟩) hS ?_
        rotate_left
        · intro w hSw; go_simp; try with_reducible rfl
        try simp only [Act.put, sp]
        refine wpAnyH_take (i := 19) (v := ?_) rfl (by kernel_rfl) (by kernel_rfl) (by kernel_rfl) (fun _ _ _ h => h) (Or.inl ⟨by rfl, ?_⟩) hS ?_
        rotate_left
        · intro w hSw; go_simp; try with_reducible rfl
        try simp only [Act.put, sp]
        have HD0 := Lib.hid (show Below w4.heap.size w4 w4.drew from (Below.refl _ _).drew)
        obtain ⟨wd, hwd⟩ : ∃ wd, wd = w4.drew := ⟨_, rfl⟩
        rw [← hwd] at hS HD0 ⊢
        clear hwd
        refine wpAnyH_ready (rs := [6, 20]) (by kernel_rfl) (by simp) ?_
        refine AllReadyH.cons rfl (fun K hK => ?_) (AllReadyH.cons rfl (fun K hK => ?_) AllReadyH.nil)
        ·
          go_simp
          obtain ⟨wa, hwa⟩ : ∃ wa, wa = wd.alloc (.cells #[.string ⟨#[105, 110, 116]⟩, .string ⟨#[99, 97, 108, 108]⟩, .string ⟨#[114, 101, 116]⟩] 9) := ⟨_, rfl⟩
          have za : wa.cell? ⟨wd.heap.size, x1, none⟩ = some (.string KB) := by rw [hwa]; exact HKC.out wd
          have HBA := Lib.hid (show Below w4.heap.size w4 wa by rw [hwa]; exact HD0.out.alloc HD0.out.size _)
          rw [← hwa]
          clear hwa
          refine hK.out _ _ (kp6 HBA.out c2 c3 c4 c5 c6 c7) (fun hS => ?_)
          clear hK K
          try simp only [Act.put, sp]
          refine wpAnyH_take (i := 9) (v := ?_) rfl (by kernel_rfl) (by kernel_rfl) (by kernel_rfl) (fun _ _ _ h => h) (Or.inl ⟨by rfl, ?_⟩) hS ?_
          rotate_left
          · intro w hSw; go_simp; try with_reducible rfl
          try simp only [Act.put, sp]
          refine wpAnyH_ready (rs := [10, 20]) (by kernel_rfl) (by simp) ?_
          refine AllReadyH.cons rfl (fun K hK => ?_) (AllReadyH.cons rfl (fun K hK => ?_) AllReadyH.nil)
          ·
            go_simp
            refine hK.out _ _ (hS) (fun hS => ?_)
            clear hK K
            try simp only [Act.put, sp]
            refine wpAnyH_take (i := 11) (v := ?_) rfl (by kernel_rfl) (by kernel_rfl) (by kernel_rfl) (fun _ _ _ h => h) (Or.inl ⟨by rfl, ?_⟩) hS ?_
            rotate_left
            · intro w hSw; go_simp; try with_reducible rfl
            try simp only [Act.put, sp]
            refine wpAnyH_take (i := 12) (v := ?_) rfl (by kernel_rfl) (by kernel_rfl) (by kernel_rfl) (fun _ _ _ h => h) (Or.inl ⟨by rfl, ?_⟩) hS ?_
            rotate_left
            · intro w hSw; go_simp; try with_reducible rfl
            try simp only [Act.put, sp]
            refine wpAnyH_take (i := 16) (v := ?_) rfl (by kernel_rfl) (by kernel_rfl) (by kernel_rfl) (fun _ _ _ h => h) (Or.inl ⟨by rfl, ?_⟩) hS ?_
            rotate_left
            · intro w hSw; go_simp; try with_reducible rfl
            try simp only [Act.put, sp]
            refine wpAnyH_take (i := 17) (v := ?_) rfl (by kernel_rfl) (by kernel_rfl) (by kernel_rfl) (fun _ _ _ h => h) (Or.inl ⟨by rfl, ?_⟩) hS ?_
            rotate_left
            · intro w hSw; go_simp; try with_reducible rfl
            try simp only [Act.put, sp]
            refine wpAnyH_ready (rs := [20]) (by kernel_rfl) (by simp) ?_
            refine AllReadyH.cons rfl (fun K hK => ?_) AllReadyH.nil
            go_simp
            go_at_call 29
            refine (HRE.out _ (bel_then HB4.out HBA.out)).mono ?_
            rintro e w5 ⟨rfl, hb5⟩
            have HB5 := Lib.hid (bel_then HBA.out hb5)
            refine hK.out _ _ (kp6 HB5.out c2 c3 c4 c5 c6 c7) (fun hS => ?_)
            clear hK K
            try simp only [Act.put, sp]
            refine wpAnyH_take (i := 21) (v := ?_) rfl (by kernel_rfl) (by kernel_rfl) (by kernel_rfl) (fun _ _ _ h => h) (Or.inl ⟨by rfl, ?_⟩) hS ?_
            rotate_left
            · intro w hSw; go_simp; try with_reducible rfl
            try simp only [Act.put, sp]
            refine wpAnyH_take (i := 22) (v := ?_) rfl (by kernel_rfl) (by kernel_rfl) (by kernel_rfl) (fun _ _ _ h => h) (Or.inl ⟨by rfl, ?_⟩) hS ?_
            rotate_left
            · intro w hSw; go_simp; try with_reducible rfl
            try simp only [Act.put, sp]
            refine wpAnyH_take (i := 23) (v := ?_) rfl (by kernel_rfl) (by kernel_rfl) (by kernel_rfl) (fun _ _ _ h => h) (Or.inl ⟨by rfl, ?_⟩) hS ?_
            rotate_left
            · intro w hSw; go_simp; try with_reducible rfl
            try simp only [Act.put, sp]
            refine wpAnyH_done (by kernel_rfl) ?_ _
            refine NoPanic.normal ?_
            go_wp2_with fail
            go_roundg g
            case measure => omega
            case rel => exact ⟨k + 1, by omega, by simp, by rw [HTN.out, HTB.out]; simp only [ByteArray.append_assoc], HNX.out, bel_then HB4.out HB5.out, cell_later HB5.out c0, cell_later HB5.out c1⟩
          ·
            go_simp
            go_at_call 29
            refine (HRE.out _ (bel_then HB4.out HBA.out)).mono ?_
            rintro e w5 ⟨rfl, hb5⟩
            have HB5 := Lib.hid (bel_then HBA.out hb5)
            have za5 := cell_later hb5 za
            refine hK.out _ _ (kp6 HB5.out c2 c3 c4 c5 c6 c7) (fun hS => ?_)
            clear hK K
            try simp only [Act.put, sp]
            refine wpAnyH_ready (rs := [10]) (by kernel_rfl) (by simp) ?_
            refine AllReadyH.cons rfl (fun K hK => ?_) AllReadyH.nil
            go_simp
            refine hK.out _ _ (hS) (fun hS => ?_)
            clear hK K
            try simp only [Act.put, sp]
            refine wpAnyH_take (i := 11) (v := ?_) rfl (by kernel_rfl) (by kernel_rfl) (by kernel_rfl) (fun _ _ _ h => h) (Or.inl ⟨by rfl, ?_⟩) hS ?_
            rotate_left
            · intro w hSw; go_simp; try with_reducible rfl
            try simp only [Act.put, sp]
            refine wpAnyH_take (i := 12) (v := ?_) rfl (by kernel_rfl) (by kernel_rfl) (by kernel_rfl) (fun _ _ _ h => h) (Or.inl ⟨by rfl, ?_⟩) hS ?_
            rotate_left
            · intro w hSw; go_simp; try with_reducible rfl
            try simp only [Act.put, sp]
            refine wpAnyH_take (i := 16) (v := ?_) rfl (by kernel_rfl) (by kernel_rfl) (by kernel_rfl) (fun _ _ _ h => h) (Or.inl ⟨by rfl, ?_⟩) hS ?_
            rotate_left
            · intro w hSw; go_simp; try with_reducible rfl
            try simp only [Act.put, sp]
            refine wpAnyH_take (i := 17) (v := ?_) rfl (by kernel_rfl) (by kernel_rfl) (by kernel_rfl) (fun _ _ _ h => h) (Or.inl ⟨by rfl, ?_⟩) hS ?_
            rotate_left
            · intro w hSw; go_simp; try with_reducible rfl
            try simp only [Act.put, sp]
            refine wpAnyH_take (i := 21) (v := ?_) rfl (by kernel_rfl) (by kernel_rfl) (by kernel_rfl) (fun _ _ _ h => h) (Or.inl ⟨by rfl, ?_⟩) hS ?_
            rotate_left
            · intro w hSw; go_simp; try with_reducible rfl
            try simp only [Act.put, sp]
            refine wpAnyH_take (i := 22) (v := ?_) rfl (by kernel_rfl) (by kernel_rfl) (by kernel_rfl) (fun _ _ _ h => h) (Or.inl ⟨by rfl, ?_⟩) hS ?_
            rotate_left
            · intro w hSw; go_simp; try with_reducible rfl
            try simp only [Act.put, sp]
            refine wpAnyH_take (i := 23) (v := ?_) rfl (by kernel_rfl) (by kernel_rfl) (by kernel_rfl) (fun _ _ _ h => h) (Or.inl ⟨by rfl, ?_⟩) hS ?_
            rotate_left
            · intro w hSw; go_simp; try with_reducible rfl
            try simp only [Act.put, sp]
            refine wpAnyH_done (by kernel_rfl) ?_ _
            refine NoPanic.normal ?_
            go_wp2_with fail
            go_roundg g
            case measure => omega
            case rel => exact ⟨k + 1, by omega, by simp, by rw [HTN.out, HTB.out]; simp only [ByteArray.append_assoc], HNX.out, bel_then HB4.out HB5.out, cell_later HB5.out c0, cell_later HB5.out c1⟩
        ·
          go_simp
          go_at_call 29
          refine (HRE.out _ (bel_then HB4.out HD0.out)).mono ?_
          rintro e w5 ⟨rfl, hb5⟩
          have HB5 := Lib.hid (bel_then HD0.out hb5)
          refine hK.out _ _ (kp6 HB5.out c2 c3 c4 c5 c6 c7) (fun hS => ?_)
          clear hK K
          try simp only [Act.put, sp]
          refine wpAnyH_ready (rs := [6]) (by kernel_rfl) (by simp) ?_
          refine AllReadyH.cons rfl (fun K hK => ?_) AllReadyH.nil
          go_simp
          obtain ⟨wa, hwa⟩ : ∃ wa, wa = w5.alloc (.cells #[.string ⟨#[105, 110, 116]⟩, .string ⟨#[99, 97, 108, 108]⟩, .string ⟨#[114, 101, 116]⟩] 9) := ⟨_, rfl⟩
          have za : wa.cell? ⟨w5.heap.size, x1, none⟩ = some (.string KB) := by rw [hwa]; exact HKC.out w5
          have HBA := Lib.hid (show Below w4.heap.size w4 wa by rw [hwa]; exact HB5.out.alloc HB5.out.size _)
          rw [← hwa]
          clear hwa
          refine hK.out _ _ (kp6 HBA.out c2 c3 c4 c5 c6 c7) (fun hS => ?_)
          clear hK K
          try simp only [Act.put, sp]
          refine wpAnyH_take (i := 9) (v := ?_) rfl (by kernel_rfl) (by kernel_rfl) (by kernel_rfl) (fun _ _ _ h => h) (Or.inl ⟨by rfl, ?_⟩) hS ?_
          rotate_left
          · intro w hSw; go_simp; try with_reducible rfl
          try simp only [Act.put, sp]
          refine wpAnyH_ready (rs := [10]) (by kernel_rfl) (by simp) ?_
          refine AllReadyH.cons rfl (fun K hK => ?_) AllReadyH.nil
          go_simp
          refine hK.out _ _ (hS) (fun hS => ?_)
          clear hK K
          try simp only [Act.put, sp]
          refine wpAnyH_take (i := 11) (v := ?_) rfl (by kernel_rfl) (by kernel_rfl) (by kernel_rfl) (fun _ _ _ h => h) (Or.inl ⟨by rfl, ?_⟩) hS ?_
          rotate_left
          · intro w hSw; go_simp; try with_reducible rfl
          try simp only [Act.put, sp]
          refine wpAnyH_take (i := 12) (v := ?_) rfl (by kernel_rfl) (by kernel_rfl) (by kernel_rfl) (fun _ _ _ h => h) (Or.inl ⟨by rfl, ?_⟩) hS ?_
          rotate_left
          · intro w hSw; go_simp; try with_reducible rfl
          try simp only [Act.put, sp]
          refine wpAnyH_take (i := 16) (v := ?_) rfl (by kernel_rfl) (by kernel_rfl) (by kernel_rfl) (fun _ _ _ h => h) (Or.inl ⟨by rfl, ?_⟩) hS ?_
          rotate_left
          · intro w hSw; go_simp; try with_reducible rfl
          try simp only [Act.put, sp]
          refine wpAnyH_take (i := 17) (v := ?_) rfl (by kernel_rfl) (by kernel_rfl) (by kernel_rfl) (fun _ _ _ h => h) (Or.inl ⟨by rfl, ?_⟩) hS ?_
          rotate_left
          · intro w hSw; go_simp; try with_reducible rfl
          try simp only [Act.put, sp]
          refine wpAnyH_take (i := 21) (v := ?_) rfl (by kernel_rfl) (by kernel_rfl) (by kernel_rfl) (fun _ _ _ h => h) (Or.inl ⟨by rfl, ?_⟩) hS ?_
          rotate_left
          · intro w hSw; go_simp; try with_reducible rfl
          try simp only [Act.put, sp]
          refine wpAnyH_take (i := 22) (v := ?_) rfl (by kernel_rfl) (by kernel_rfl) (by kernel_rfl) (fun _ _ _ h => h) (Or.inl ⟨by rfl, ?_⟩) hS ?_
          rotate_left
          · intro w hSw; go_simp; try with_reducible rfl
          try simp only [Act.put, sp]
          refine wpAnyH_take (i := 23) (v := ?_) rfl (by kernel_rfl) (by kernel_rfl) (by kernel_rfl) (fun _ _ _ h => h) (Or.inl ⟨by rfl, ?_⟩) hS ?_
          rotate_left
          · intro w hSw; go_simp; try with_reducible rfl
          try simp only [Act.put, sp]
          refine wpAnyH_done (by kernel_rfl) ?_ _
          refine NoPanic.normal ?_
          go_wp2_with fail
          go_roundg g
          case measure => omega
          case rel => exact ⟨k + 1, by omega, by simp, by rw [HTN.out, HTB.out]; simp only [ByteArray.append_assoc], HNX.out, bel_then HB4.out HBA.out, cell_later HBA.out c0, cell_later HBA.out c1⟩
    | zero =>
      obtain rfl : k = n := by omega
      have y1 : decide ((k : Int) < (k : Int)) = false := by simp
      have y2 : decide (k < k) = false := by simp
      have HNT := Lib.hid (show nnT T = false by
        unfold nnT
        rw [List.any_eq_false]
        intro t ht
        obtain ⟨i, hi, rfl⟩ := List.getElem_of_mem ht
        have := HNO.out i _ (by have := HN.out.1; omega) (List.getElem?_eq_getElem hi)
        rw [this]; simp)
      have HS2 := Lib.hid (HS1.out.trans (if_neg (by rw [HNT.out]; simp)))
      have HCT := Lib.hid (show catB (T.map tokB) = C by rw [HC.out, List.take_of_length_le (by have := HN.out.1; omega)])
      obtain ⟨wo, rfl⟩ : ∃ wo : World, wo = wr := ⟨_, rfl⟩
      clear hbel HS1
      go_wp2_with fail
      go_loopg [6, 9] m (fun g s6 s9 wx => ∃ i : Nat, i + g = m ∧ s9 = .int .i64 (i : Int) ∧ s6 = .string (C ++ catB ((R.take i).map ruleB)) ∧ Below w.heap.size w wx ∧ wx.cell? ⟨w.heap.size, 0, none⟩ = some (.slice ot k ct) ∧ wx.cell? ⟨w.heap.size, 1, none⟩ = some (.slice orr m cr))
      case atStart => exact ⟨0, by omega, rfl, by congr 1; apply ByteArray.ext; simp [catB], HBE.out, e0, e1⟩
      case round =>
        obtain ⟨i, hig, rfl, rfl, hbel, f0, f1⟩ := hrel
        have HBF := Lib.hid hbel
        have hPs : (catB ((R.take i).map ruleB)).size ≤ 19000000020 * 8 := cats_le ruleB 19000000020 8 R (fun x hx => ruleB_size (HOR.out.2 x hx)) HOR.out.1 i
        obtain ⟨E, hE⟩ : ∃ E, E = C ++ catB ((R.take i).map ruleB) := ⟨_, rfl⟩
        have hEs : E.size ≤ 200000000000 := by rw [hE, ByteArray.size_append]; omega
        rw [← hE]
        have HE := Lib.hid hE
        clear e0 e1 hE hPs
        cases gk with
        | zero =>
          obtain rfl : i = m := by omega
          have z1 : decide ((i : Int) < (i : Int)) = false := by simp
          have z2 : decide (i < i) = false := by simp
          have HEE := Lib.hid (show C ++ catB (R.map ruleB) = E by rw [HE.out, List.take_of_length_le (by have := HN.out.2; omega)])
          have HS3 := Lib.hid (show S = if 4000 < E.size then (⟨#[]⟩, 6) else (E, 0) by rw [HS2.out, HCT.out, HEE.out])
          clear hbel HS2
          by_cases h4 : 4000 < E.size
          · have u1 : decide ((4000 : Int) < (E.size : Int)) = true := by simp; omega
            have u2 : decide (4000 < E.size) = true := by simpa using h4
            have HX := Lib.hid (HS3.out.trans (if_pos h4))
            clear h4
            go_wp2_with fail
            go_ret2
            exact ⟨by rw [HX.out]; rfl, HBF.out⟩
          · have u1 : decide ((4000 : Int) < (E.size : Int)) = false := by simp; omega
            have u2 : decide (4000 < E.size) = false := by simpa using h4
            have HX := Lib.hid (HS3.out.trans (if_neg h4))
            clear h4
            go_wp2_with fail
            go_ret2
            exact ⟨by rw [HX.out]; rfl, HBF.out⟩
        | succ g =>
          have hi : i < m := by omega
          have z1 : decide ((i : Int) < (m : Int)) = true := by simp; omega
          have z2 : decide (i < m) = true := by simpa using hi
          have hi1 : (0 : Int) ≤ (i : Int) := by omega
          have hi2 : (i : Int) < (m : Int) := by omega
          obtain ⟨r, hp⟩ : ∃ p, R[i]? = some p := ⟨_, List.getElem?_eq_getElem (by have := HN.out.2; omega)⟩
          obtain ⟨b0, off, cap, so, sc, hso, hbl, hst, k0, k1, k2⟩ := HGET.out i r hp
          obtain ⟨rfl, -, rfl⟩ : orr = some ⟨b0, off, none⟩ ∧ m = R.length ∧ cr = cap := by injection hso with q1 q2 q3; exact ⟨q1, HN.out.2, q3⟩
          have hok := HOR.out.2 r (List.mem_of_getElem? hp)
          have HST := Lib.hid (fun (j : Nat) (s : ST) (h : r.steps[j]? = some s) => hst.get h)
          have HSO := Lib.hid hok.st
          have hrb : ruleB r = ((if r.free = true then (⟨#[114, 117, 108, 101, 32]⟩ ++ decB r.cls) ++ ⟨#[32, 102, 114, 101, 101]⟩ else ⟨#[114, 117, 108, 101, 32]⟩ ++ decB r.cls) ++ catB (r.steps.map stepB)) ++ ⟨#[10]⟩ := rfl
          have hdc := fun w' => rdec_any r.cls w' hok.cl
          have z3 := decB_size hok.cl
          have HSS := Lib.hid (fun j => cats_le stepB 190000000 100 r.steps (fun x hx => stepB_size (hok.st x hx)) hok.ln j)
          have HRN := Lib.hid (show C ++ catB ((R.take (i + 1)).map ruleB) = E ++ ruleB r by rw [take_snoc R ruleB i r hp, catB_snoc, HE.out, ByteArray.append_assoc])
          rw [← hbel.cell hbl] at k0 k1 k2
          obtain ⟨sl, hsl⟩ : ∃ x, x = r.steps.length := ⟨_, rfl⟩
          obtain ⟨rc, hrc⟩ : ∃ x, x = r.cls := ⟨_, rfl⟩
          obtain ⟨rf, hrf⟩ : ∃ x, x = r.free := ⟨_, rfl⟩
          obtain ⟨D, hD⟩ : ∃ x, x = decB r.cls := ⟨_, rfl⟩
          rw [← hD] at hdc z3 hrb
          rw [← hrc] at hdc k0
          rw [← hrf] at k1 hrb
          rw [← hsl] at k2
          have HSL := Lib.hid hsl
          have hsl9 : sl ≤ 100 := by have := hok.ln; omega
          have HDC := Lib.hid hdc
          have HRB := Lib.hid hrb
          have hv0 : ¬ 9223372036854775807 < E.size + 5 := by omega
          have hv1 : ¬ 9223372036854775807 < E.size + 5 + D.size := by omega
          have hv2 : ¬ 9223372036854775807 < E.size + 5 + D.size + 5 := by omega
          obtain ⟨wC, hwC⟩ : ∃ wC, wC = wr.alloc (.cells #[.int .i64 rc, .bool rf, .slice so sl sc] 64) := ⟨_, rfl⟩
          have HWC := Lib.hid (show Below w.heap.size w wC ∧ wC.cell? ⟨w.heap.size, 0, none⟩ = some (.slice ot k ct) ∧ wC.cell? ⟨w.heap.size, 1, none⟩ = some (.slice (some ⟨b0, off, none⟩) m cr) ∧ wC.cell? ⟨wr.heap.size, 0, none⟩ = some (.int .i64 rc) ∧ wC.cell? ⟨wr.heap.size, 1, none⟩ = some (.bool rf) ∧ wC.cell? ⟨wr.heap.size, 2, none⟩ = some (.slice so sl sc) by
            rw [hwC]
            exact ⟨bel_new HBF.out _, cell_later (bel_new (Below.refl _ _) _) f0, cell_later (bel_new (Below.refl _ _) _) f1, by simp [go_sem], by simp [go_sem], by simp [go_sem]⟩)
          clear hp hst hso hbl hbel hok hdc hrb hsl hrc hrf hD
          go_wp2_with fail
          rw [← hwC]
          clear hwC k0 k1 k2 f0 f1
          obtain ⟨hbC, c0, c1, c2, c3, c4⟩ := HWC.out
          have HBC := Lib.hid hbC
          have HC6 := Lib.hid (And.intro c0 (And.intro c1 c4))
          clear hbC
          go_wp2_with fail
          refine (HDC.out _).mono ?_
          rintro x w4 ⟨rfl, rfl⟩
          cases rf with
          | true =>
            obtain ⟨Hd, hHd⟩ : ∃ x, x = ((E ++ ⟨#[114, 117, 108, 101, 32]⟩) ++ D) ++ ⟨#[32, 102, 114, 101, 101]⟩ := ⟨_, rfl⟩
            have hHs : Hd.size ≤ 200000000012 := by rw [hHd]; simp only [ByteArray.size_append]; show E.size + 5 + D.size + 5 ≤ _; omega
            have HHD := Lib.hid hHd
            clear hHd
            obtain ⟨wv, rfl⟩ : ∃ wv : World, wv = wr := ⟨_, rfl⟩
            go_upto_region 20 with (fail)
            go_loopg [6, 11] sl (fun g s6 s11 wx => ∃ j : Nat, j + g = sl ∧ s11 = .int .i64 (j : Int) ∧ s6 = .string (Hd ++ catB ((r.steps.take j).map stepB)) ∧ Below w.heap.size w wx ∧ wx.cell? ⟨w.heap.size, 0, none⟩ = some (.slice ot k ct) ∧ wx.cell? ⟨w.heap.size, 1, none⟩ = some (.slice (some ⟨b0, off, none⟩) m cr) ∧ wx.cell? ⟨wv.heap.size, 2, none⟩ = some (.slice so sl sc))
            case atStart => exact ⟨0, by omega, rfl, by rw [HHD.out, List.take_zero, List.map_nil, cat_nil], HBC.out, HC6.out.1, HC6.out.2.1, HC6.out.2.2⟩
            case round =>
              obtain ⟨j, hjg, rfl, rfl, hbel, f0, f1, f4⟩ := hrel
              have HBJ := Lib.hid hbel
              have hQs : (catB ((r.steps.take j).map stepB)).size ≤ 19000000000 := HSS.out j
              obtain ⟨Q, hQ⟩ : ∃ Q, Q = Hd ++ catB ((r.steps.take j).map stepB) := ⟨_, rfl⟩
              have hQ9 : Q.size ≤ 300000000000 := by rw [hQ, ByteArray.size_append]; omega
              rw [← hQ]
              have HQ := Lib.hid hQ
              clear hQ hQs
              cases gk with
              | zero =>
                obtain rfl : j = sl := by omega
                have w1 : decide ((j : Int) < (j : Int)) = false := by simp
                have w2 : decide (j < j) = false := by simp
                have hu0 : ¬ 9223372036854775807 < Q.size + 1 := by omega
                have HQ2 := Lib.hid (show E ++ ruleB r = Q ++ ⟨#[10]⟩ by
                  rw [HRB.out, HQ.out, List.take_of_length_le (by have := HSL.out; omega), HHD.out]
                  simp only [if_true, if_false, Bool.false_eq_true, ByteArray.append_assoc])
                clear hbel
                go_wp2_with fail
                go_roundg g
                case measure => omega
                case rel => exact ⟨i + 1, by omega, by simp, by rw [HRN.out, HQ2.out], HBJ.out, f0, f1⟩
              | succ gj =>
                have hj : j < sl := by omega
                have w1 : decide ((j : Int) < (sl : Int)) = true := by simp; omega
                have w2 : decide (j < sl) = true := by simpa using hj
                have hj1 : (0 : Int) ≤ (j : Int) := by omega
                have hj2 : (j : Int) < (sl : Int) := by omega
                obtain ⟨s, hsj⟩ : ∃ s, r.steps[j]? = some s := ⟨_, List.getElem?_eq_getElem (by have := HSL.out; omega)⟩
                obtain ⟨b1, off1, cap1, co, cc, no, nc, eo, ec, lo, lc, hso, hbl1, hcr, hpt, u0, u1, u2, u3, u4⟩ := HST.out j s hsj
                obtain ⟨rfl, rfl⟩ : so = some ⟨b1, off1, none⟩ ∧ sc = cap1 := by injection hso with q1 q2 q3; exact ⟨q1, q3⟩
                have hso1 := HSO.out s (List.mem_of_getElem? hsj)
                have hli := fun w' (hb : Below w.heap.size w w') => rlist_any _ s.calls w' (hcr.below hb) hso1.sh
                have hpa := fun w' (hb : Below w.heap.size w w') => rpat_all14 s.p.size s.p _ _ _ w' (Nat.le_refl _) (by have := hso1.sz; omega) hso1.ok (hpt.moved hb)
                have q1 := hso1.sh.join
                have q2 := pt_size s.p.size s.p (Nat.le_refl _) hso1.ok
                have q3 := hso1.sz
                have hsb : stepB s = if 0 < s.calls.length then ((⟨#[32, 94, 32]⟩ ++ brB s.calls) ++ ⟨#[32]⟩) ++ s.p.text else ⟨#[32]⟩ ++ s.p.text := rfl
                have HSN := Lib.hid (show Hd ++ catB ((r.steps.take (j + 1)).map stepB) = Q ++ stepB s by rw [take_snoc r.steps stepB j s hsj, catB_snoc, HQ.out, ByteArray.append_assoc])
                rw [← hbel.cell hbl1] at u0 u1 u2 u3 u4
                have hbr : brB s.calls = (⟨#[123]⟩ ++ joinB s.calls) ++ ⟨#[125]⟩ := rfl
                obtain ⟨J, hJ⟩ : ∃ x, x = joinB s.calls := ⟨_, rfl⟩
                obtain ⟨X, hX⟩ : ∃ x, x = s.p.text := ⟨_, rfl⟩
                rw [hbr, ← hJ, ← hX] at hsb
                rw [← hJ] at hli q1
                rw [← hX] at hpa q2
                obtain ⟨cl, hcl⟩ : ∃ x, x = s.calls.length := ⟨_, rfl⟩
                obtain ⟨pk, hpk⟩ : ∃ x, x = s.p.kind := ⟨_, rfl⟩
                obtain ⟨pn, hpn⟩ : ∃ x, x = s.p.names.length := ⟨_, rfl⟩
                obtain ⟨pe, hpe⟩ : ∃ x, x = s.p.ends.length := ⟨_, rfl⟩
                obtain ⟨pp, hpp⟩ : ∃ x, x = s.p.parts.length := ⟨_, rfl⟩
                rw [← hcl] at hsb hli u0
                rw [← hpk] at hpa u1
                rw [← hpn] at hpa u2
                rw [← hpe] at hpa u3
                rw [← hpp] at hpa u4
                have HSB := Lib.hid hsb
                have HLI := Lib.hid hli
                have HPA := Lib.hid hpa
                have hX9 : X.size ≤ 180000000 := by omega
                have hu0 : ¬ 9223372036854775807 < Q.size + 1 := by omega
                have hu1 : ¬ 9223372036854775807 < Q.size + 1 + X.size := by omega
                have hu2 : ¬ 9223372036854775807 < Q.size + 1 + 3 := by omega
                have hu3 : ¬ 9223372036854775807 < Q.size + 1 + 3 + J.size := by omega
                have hu4 : ¬ 9223372036854775807 < Q.size + 1 + 3 + J.size + 2 := by omega
                have hu5 : ¬ 9223372036854775807 < Q.size + 1 + 3 + J.size + 2 + X.size := by omega
                clear hsb hli hpa hJ hX hcl hpk hpn hpe hpp q1 q2 q3 hso1 hcr hpt hso hsj hbl1 hbel
                by_cases h0 : 0 < cl
                · have v1 : decide ((0 : Int) < (cl : Int)) = true := by simp; omega
                  have v2 : decide (0 < cl) = true := by simpa using h0
                  have HSX := Lib.hid (HSB.out.trans (if_pos h0))
                  clear h0
                  go_wp2_with fail
                  refine (HLI.out _ HBJ.out).mono ?_
                  rintro x w5 ⟨rfl, e5⟩
                  have e6 := e5.symm
                  subst e6
                  go_wp2_with fail
                  refine (HPA.out _ HBJ.out).mono ?_
                  rintro x w6 ⟨rfl, hb6⟩
                  have HB6 := Lib.hid (bel_then HBJ.out hb6)
                  replace f0 := cell_later hb6 f0
                  replace f1 := cell_later hb6 f1
                  replace f4 := cell_later hb6 f4
                  clear hb6 u0 u1 u2 u3 u4
                  go_wp2_with fail
                  go_roundg gj
                  case measure => omega
                  case rel => exact ⟨j + 1, by omega, by simp, by rw [HSN.out, HSX.out, step_eq], HB6.out, f0, f1, f4⟩
                · have v1 : decide ((0 : Int) < (cl : Int)) = false := by simp; omega
                  have v2 : decide (0 < cl) = false := by simpa using h0
                  have HSX := Lib.hid (HSB.out.trans (if_neg h0))
                  clear h0
                  go_wp2_with fail
                  refine (HPA.out _ HBJ.out).mono ?_
                  rintro x w6 ⟨rfl, hb6⟩
                  have HB6 := Lib.hid (bel_then HBJ.out hb6)
                  replace f0 := cell_later hb6 f0
                  replace f1 := cell_later hb6 f1
                  replace f4 := cell_later hb6 f4
                  clear hb6 u0 u1 u2 u3 u4
                  go_wp2_with fail
                  go_roundg gj
                  case measure => omega
                  case rel => exact ⟨j + 1, by omega, by simp, by rw [HSN.out, HSX.out]; simp only [ByteArray.append_assoc], HB6.out, f0, f1, f4⟩
          | false =>
            obtain ⟨Hd, hHd⟩ : ∃ x, x = (E ++ ⟨#[114, 117, 108, 101, 32]⟩) ++ D := ⟨_, rfl⟩
            have hHs : Hd.size ≤ 200000000012 := by rw [hHd]; simp only [ByteArray.size_append]; show E.size + 5 + D.size ≤ _; omega
            have HHD := Lib.hid hHd
            clear hHd
            obtain ⟨wv, rfl⟩ : ∃ wv : World, wv = wr := ⟨_, rfl⟩
            go_upto_region 20 with (fail)
            go_loopg [6, 11] sl (fun g s6 s11 wx => ∃ j : Nat, j + g = sl ∧ s11 = .int .i64 (j : Int) ∧ s6 = .string (Hd ++ catB ((r.steps.take j).map stepB)) ∧ Below w.heap.size w wx ∧ wx.cell? ⟨w.heap.size, 0, none⟩ = some (.slice ot k ct) ∧ wx.cell? ⟨w.heap.size, 1, none⟩ = some (.slice (some ⟨b0, off, none⟩) m cr) ∧ wx.cell? ⟨wv.heap.size, 2, none⟩ = some (.slice so sl sc))
            case atStart => exact ⟨0, by omega, rfl, by rw [HHD.out, List.take_zero, List.map_nil, cat_nil], HBC.out, HC6.out.1, HC6.out.2.1, HC6.out.2.2⟩
            case round =>
              obtain ⟨j, hjg, rfl, rfl, hbel, f0, f1, f4⟩ := hrel
              have HBJ := Lib.hid hbel
              have hQs : (catB ((r.steps.take j).map stepB)).size ≤ 19000000000 := HSS.out j
              obtain ⟨Q, hQ⟩ : ∃ Q, Q = Hd ++ catB ((r.steps.take j).map stepB) := ⟨_, rfl⟩
              have hQ9 : Q.size ≤ 300000000000 := by rw [hQ, ByteArray.size_append]; omega
              rw [← hQ]
              have HQ := Lib.hid hQ
              clear hQ hQs
              cases gk with
              | zero =>
                obtain rfl : j = sl := by omega
                have w1 : decide ((j : Int) < (j : Int)) = false := by simp
                have w2 : decide (j < j) = false := by simp
                have hu0 : ¬ 9223372036854775807 < Q.size + 1 := by omega
                have HQ2 := Lib.hid (show E ++ ruleB r = Q ++ ⟨#[10]⟩ by
                  rw [HRB.out, HQ.out, List.take_of_length_le (by have := HSL.out; omega), HHD.out]
                  simp only [if_true, if_false, Bool.false_eq_true, ByteArray.append_assoc])
                clear hbel
                go_wp2_with fail
                go_roundg g
                case measure => omega
                case rel => exact ⟨i + 1, by omega, by simp, by rw [HRN.out, HQ2.out], HBJ.out, f0, f1⟩
              | succ gj =>
                have hj : j < sl := by omega
                have w1 : decide ((j : Int) < (sl : Int)) = true := by simp; omega
                have w2 : decide (j < sl) = true := by simpa using hj
                have hj1 : (0 : Int) ≤ (j : Int) := by omega
                have hj2 : (j : Int) < (sl : Int) := by omega
                obtain ⟨s, hsj⟩ : ∃ s, r.steps[j]? = some s := ⟨_, List.getElem?_eq_getElem (by have := HSL.out; omega)⟩
                obtain ⟨b1, off1, cap1, co, cc, no, nc, eo, ec, lo, lc, hso, hbl1, hcr, hpt, u0, u1, u2, u3, u4⟩ := HST.out j s hsj
                obtain ⟨rfl, rfl⟩ : so = some ⟨b1, off1, none⟩ ∧ sc = cap1 := by injection hso with q1 q2 q3; exact ⟨q1, q3⟩
                have hso1 := HSO.out s (List.mem_of_getElem? hsj)
                have hli := fun w' (hb : Below w.heap.size w w') => rlist_any _ s.calls w' (hcr.below hb) hso1.sh
                have hpa := fun w' (hb : Below w.heap.size w w') => rpat_all14 s.p.size s.p _ _ _ w' (Nat.le_refl _) (by have := hso1.sz; omega) hso1.ok (hpt.moved hb)
                have q1 := hso1.sh.join
                have q2 := pt_size s.p.size s.p (Nat.le_refl _) hso1.ok
                have q3 := hso1.sz
                have hsb : stepB s = if 0 < s.calls.length then ((⟨#[32, 94, 32]⟩ ++ brB s.calls) ++ ⟨#[32]⟩) ++ s.p.text else ⟨#[32]⟩ ++ s.p.text := rfl
                have HSN := Lib.hid (show Hd ++ catB ((r.steps.take (j + 1)).map stepB) = Q ++ stepB s by rw [take_snoc r.steps stepB j s hsj, catB_snoc, HQ.out, ByteArray.append_assoc])
                rw [← hbel.cell hbl1] at u0 u1 u2 u3 u4
                have hbr : brB s.calls = (⟨#[123]⟩ ++ joinB s.calls) ++ ⟨#[125]⟩ := rfl
                obtain ⟨J, hJ⟩ : ∃ x, x = joinB s.calls := ⟨_, rfl⟩
                obtain ⟨X, hX⟩ : ∃ x, x = s.p.text := ⟨_, rfl⟩
                rw [hbr, ← hJ, ← hX] at hsb
                rw [← hJ] at hli q1
                rw [← hX] at hpa q2
                obtain ⟨cl, hcl⟩ : ∃ x, x = s.calls.length := ⟨_, rfl⟩
                obtain ⟨pk, hpk⟩ : ∃ x, x = s.p.kind := ⟨_, rfl⟩
                obtain ⟨pn, hpn⟩ : ∃ x, x = s.p.names.length := ⟨_, rfl⟩
                obtain ⟨pe, hpe⟩ : ∃ x, x = s.p.ends.length := ⟨_, rfl⟩
                obtain ⟨pp, hpp⟩ : ∃ x, x = s.p.parts.length := ⟨_, rfl⟩
                rw [← hcl] at hsb hli u0
                rw [← hpk] at hpa u1
                rw [← hpn] at hpa u2
                rw [← hpe] at hpa u3
                rw [← hpp] at hpa u4
                have HSB := Lib.hid hsb
                have HLI := Lib.hid hli
                have HPA := Lib.hid hpa
                have hX9 : X.size ≤ 180000000 := by omega
                have hu0 : ¬ 9223372036854775807 < Q.size + 1 := by omega
                have hu1 : ¬ 9223372036854775807 < Q.size + 1 + X.size := by omega
                have hu2 : ¬ 9223372036854775807 < Q.size + 1 + 3 := by omega
                have hu3 : ¬ 9223372036854775807 < Q.size + 1 + 3 + J.size := by omega
                have hu4 : ¬ 9223372036854775807 < Q.size + 1 + 3 + J.size + 2 := by omega
                have hu5 : ¬ 9223372036854775807 < Q.size + 1 + 3 + J.size + 2 + X.size := by omega
                clear hsb hli hpa hJ hX hcl hpk hpn hpe hpp q1 q2 q3 hso1 hcr hpt hso hsj hbl1 hbel
                by_cases h0 : 0 < cl
                · have v1 : decide ((0 : Int) < (cl : Int)) = true := by simp; omega
                  have v2 : decide (0 < cl) = true := by simpa using h0
                  have HSX := Lib.hid (HSB.out.trans (if_pos h0))
                  clear h0
                  go_wp2_with fail
                  refine (HLI.out _ HBJ.out).mono ?_
                  rintro x w5 ⟨rfl, e5⟩
                  have e6 := e5.symm
                  subst e6
                  go_wp2_with fail
                  refine (HPA.out _ HBJ.out).mono ?_
                  rintro x w6 ⟨rfl, hb6⟩
                  have HB6 := Lib.hid (bel_then HBJ.out hb6)
                  replace f0 := cell_later hb6 f0
                  replace f1 := cell_later hb6 f1
                  replace f4 := cell_later hb6 f4
                  clear hb6 u0 u1 u2 u3 u4
                  go_wp2_with fail
                  go_roundg gj
                  case measure => omega
                  case rel => exact ⟨j + 1, by omega, by simp, by rw [HSN.out, HSX.out, step_eq], HB6.out, f0, f1, f4⟩
                · have v1 : decide ((0 : Int) < (cl : Int)) = false := by simp; omega
                  have v2 : decide (0 < cl) = false := by simpa using h0
                  have HSX := Lib.hid (HSB.out.trans (if_neg h0))
                  clear h0
                  go_wp2_with fail
                  refine (HPA.out _ HBJ.out).mono ?_
                  rintro x w6 ⟨rfl, hb6⟩
                  have HB6 := Lib.hid (bel_then HBJ.out hb6)
                  replace f0 := cell_later hb6 f0
                  replace f1 := cell_later hb6 f1
                  replace f4 := cell_later hb6 f4
                  clear hb6 u0 u1 u2 u3 u4
                  go_wp2_with fail
                  go_roundg gj
                  case measure => omega
                  case rel => exact ⟨j + 1, by omega, by simp, by rw [HSN.out, HSX.out]; simp only [ByteArray.append_assoc], HB6.out, f0, f1, f4⟩
end Go.Proofs.YtbanmggkfpnalaaGreatDoor

namespace Go.Proofs.YtbanmggkfpnalaaGreatDoor
open Go.RowKit Ru

theorem MTok.sizes {T : List TK} (h : MTok T) : ∀ (i : Nat) (t : TK), T[i]? = some t → t.re.size ≤ 1000 := by
  have key : ∀ T : List TK, T = T0 ∨ T = T6 → (T.all fun t => decide (t.re.size ≤ 1000)) = true := by
    rintro T (rfl | rfl) <;> decide +kernel
  intro i t ht
  have := List.all_eq_true.1 (key T h) t (List.mem_of_getElem? ht)
  exact of_decide_eq_true this
theorem pgood_size {T : List TK} {p : PT} (h : PGood T p) : p.size ≤ 1000 := by
  have := (PT.fits_iff p).1 h.fits
  omega
theorem bytes_self (S : ByteArray) : (S == S) = true := by cases S; rename_i d; show (d == d) = true; simp
theorem both_any (T : List TK) (R : List RU) (tv rv : Value) (w : World) (hT : TksAre w tv T) (hR : RusAre w rv R) (hG : FewG T R) (hZ : TZ w) :
    (∀ w', Below w.heap.size w w' → Calls Tryz.prog 14 #[.agg #[tv, rv]] w' fun e w'' => e = .returned (.tuple #[.string (srcB T R).1, .int .i64 (srcB T R).2]) ∧ Below w'.heap.size w' w'') ∧
    (∀ w', Below w.heap.size w w' → Calls Tryz.prog 15 #[.agg #[tv, rv]] w' fun e w'' => e = .returned (.tuple #[.string (srcB T R).1, .int .i64 (srcB T R).2]) ∧ Below w'.heap.size w' w'') :=
  ⟨fun w' hb => prSource_any T R tv rv w' (hT.moved hb) (hR.moved hb) (by have := hG.tl; omega) (by have := hG.rl; omega) hG.tf hG.rf (hZ.moved hb), fun w' hb => rprint_any T R tv rv w' (hT.moved hb) (hR.moved hb) hG⟩
theorem toks_form {w : World} {v : Value} {l : List TK} (h : TksAre w v l) : ∃ o c, v = .slice o l.length c := by
  obtain ⟨o, cap, nm, kd, cl, rk, so, sn, sc, lo, ln, lc, e, -⟩ := h.all
  exact ⟨o, cap, e⟩
theorem made_few {T : List TK} {R : List RU} (hT : MTok T) (hR : ∀ r ∈ R, RGood T r) (hl : R.length ≤ 3) : FewG T R := by
  have hlen := hT.len
  refine ⟨by omega, by omega, hT.fit, hT.sizes, RGood.fit hR, fun i r hr j s hs => ?_⟩
  exact pgood_size ((hR r (List.mem_of_getElem? hr)).st j s hs).p
set_option maxHeartbeats 8000000 in
set_option maxRecDepth 100000 in
theorem printGrammars_walk (T : List TK) (R : List RU) (tv rv : Value) (L : List (List Int)) (vs : List Value) (lv : Value) (w : World) (hT : TksAre w tv T) (hR : RusAre w rv R) (hTr : TRaw T) (hL : RowsI w lv vs L) (hB : ∀ l ∈ L, l.length ≤ 17592186044416) (hZ : TZ w) :
    Calls Tryz.prog 4 #[.agg #[tv, rv], lv] w fun e w' => e = .returned (.bool true) ∧ Below w.heap.size w w' := by
  have HTO := Lib.hid (fun w' (hb : Below w.heap.size w w') => told14_any w' (hZ.moved hb))
  have hfw := fun w' (hb : Below w.heap.size w w') => gfew_any T R tv rv w' (hT.moved hb) (hR.moved hb) hTr
  have hbt := fun (hG : FewG T R) => both_any T R tv rv w hT hR hG hZ
  have HMK := Lib.hid (fun w' (hb : Below w.heap.size w w') => make_okF L vs lv w' (hL.moved hb) hB)
  have HZ := Lib.hid hZ
  obtain ⟨ol, cl, rfl, -⟩ := hL.row
  obtain ⟨ot, ct, rfl⟩ := toks_form hT
  obtain ⟨orr, cr, rfl⟩ := hR.form
  obtain ⟨S1, hS1⟩ : ∃ x, x = (srcB T R).1 := ⟨_, rfl⟩
  obtain ⟨C1, hC1⟩ : ∃ x, x = (srcB T R).2 := ⟨_, rfl⟩
  obtain ⟨n, hn⟩ : ∃ x, x = T.length := ⟨_, rfl⟩
  obtain ⟨m, hm⟩ : ∃ x, x = R.length := ⟨_, rfl⟩
  obtain ⟨k, hk⟩ : ∃ x, x = L.length := ⟨_, rfl⟩
  rw [← hS1, ← hC1, ← hn, ← hm] at hbt
  rw [← hn, ← hm] at hfw ⊢
  rw [← hk] at HMK ⊢
  have HFW := Lib.hid hfw
  have HBT := Lib.hid hbt
  clear hfw hbt hS1 hC1 hn hm hk hT hR hTr hL hB hZ
  go_enter Tryz.func4, Tryz.ntmps4
  go_wp2_with fail
  refine (HFW.out _ (bel_new (Below.refl _ _) _)).mono ?_
  rintro x w2 ⟨⟨bf, rfl, hbf⟩, hb2⟩
  have hbx := box_kept hb2
  have c0 : w2.cell? ⟨w.heap.size, 0, none⟩ = some (.slice ot n ct) := by simp [World.cell?, hbx]
  have c1 : w2.cell? ⟨w.heap.size, 1, none⟩ = some (.slice orr m cr) := by simp [World.cell?, hbx]
  have HB2 := Lib.hid (bel_then (bel_new (Below.refl w.heap.size w) _) hb2)
  have HBF := Lib.hid hbf
  clear hb2 hbf hbx
  cases bf with
  | false =>
    go_wp2_with fail
    refine (HTO.out _ HB2.out).mono ?_
    rintro x w3 ⟨rfl, hb3⟩
    have HB3 := Lib.hid (bel_then HB2.out hb3)
    clear hb3
    go_wp2_with fail
    go_ret
    exact ⟨rfl, HB3.out⟩
  | true =>
    have HBB := Lib.hid (HBT.out (HBF.out (by first | rfl | trivial)))
    clear HBT HBF
    go_wp2_with fail
    refine (HBB.out.1 _ HB2.out).mono ?_
    rintro x w3 ⟨rfl, hb3⟩
    have HB3 := Lib.hid (bel_then HB2.out hb3)
    replace c0 := cell_later hb3 c0
    replace c1 := cell_later hb3 c1
    clear hb3
    go_wp2_with fail
    refine (HBB.out.2 _ HB3.out).mono ?_
    rintro x w4 ⟨rfl, hb4⟩
    have HB4 := Lib.hid (bel_then HB3.out hb4)
    clear hb4 c0 c1
    go_wp2_with fail
    refine (HMK.out _ HB4.out).mono ?_
    rintro x w5 ⟨T2, R2, tv2, rv2, rfl, hT2, hR2, hM2, hG2, hl2, ⟨hTf, hRf⟩, hb5⟩
    have HB5 := Lib.hid (bel_then HB4.out hb5)
    have hbt2 := both_any T2 R2 tv2 rv2 w5 hT2 hR2 (made_few hM2 hG2 hl2) (HZ.out.moved HB5.out)
    obtain ⟨S2, hS2⟩ : ∃ x, x = (srcB (mkT L) (mkR L)).1 := ⟨_, rfl⟩
    obtain ⟨C2, hC2⟩ : ∃ x, x = (srcB (mkT L) (mkR L)).2 := ⟨_, rfl⟩
    rw [hTf, hRf, ← hS2, ← hC2] at hbt2
    obtain ⟨o2, q2, rfl⟩ := toks_form hT2
    obtain ⟨o3, q3, rfl⟩ := hR2.form
    obtain ⟨n2, hn2⟩ : ∃ x, x = T2.length := ⟨_, rfl⟩
    obtain ⟨m2, hm2⟩ : ∃ x, x = R2.length := ⟨_, rfl⟩
    rw [← hn2, ← hm2] at hbt2 ⊢
    have HB2' := Lib.hid hbt2
    have HSC := Lib.hid (And.intro hS2 hC2)
    clear hbt2 hT2 hR2 hM2 hG2 hl2 hTf hRf hb5 hn2 hm2 hS2 hC2
    go_wp2_with fail
    refine (HB2'.out.1 _ (Below.refl _ _)).mono ?_
    rintro x w6 ⟨rfl, hb6⟩
    have HB6 := Lib.hid (bel_then HB5.out hb6)
    clear hb6
    go_wp2_with fail
    refine (HMK.out _ HB6.out).mono ?_
    rintro x w7 ⟨T3, R3, tv3, rv3, rfl, hT3, hR3, hM3, hG3, hl3, ⟨hTf, hRf⟩, hb7⟩
    have HB7 := Lib.hid (bel_then HB6.out hb7)
    have hbt3 := both_any T3 R3 tv3 rv3 w7 hT3 hR3 (made_few hM3 hG3 hl3) (HZ.out.moved HB7.out)
    rw [hTf, hRf, ← HSC.out.1, ← HSC.out.2] at hbt3
    obtain ⟨o4, q4, rfl⟩ := toks_form hT3
    obtain ⟨o5, q5, rfl⟩ := hR3.form
    obtain ⟨n3, hn3⟩ : ∃ x, x = T3.length := ⟨_, rfl⟩
    obtain ⟨m3, hm3⟩ : ∃ x, x = R3.length := ⟨_, rfl⟩
    rw [← hn3, ← hm3] at hbt3 ⊢
    have HB3' := Lib.hid hbt3
    clear hbt3 hT3 hR3 hM3 hG3 hl3 hTf hRf hb7 hn3 hm3
    go_wp2_with fail
    refine (HB3'.out.2 _ (Below.refl _ _)).mono ?_
    rintro x w8 ⟨rfl, hb8⟩
    have HB8 := Lib.hid (bel_then HB7.out hb8)
    have e1 := bytes_self S1
    have e2 := bytes_self S2
    clear hb8
    go_wp2_with fail
    refine (HTO.out _ HB8.out).mono ?_
    rintro x w9 ⟨rfl, hb9⟩
    have HB9 := Lib.hid (bel_then HB8.out hb9)
    clear hb9
    go_wp2_with fail
    go_ret
    exact ⟨rfl, HB9.out⟩
end Go.Proofs.YtbanmggkfpnalaaGreatDoor
