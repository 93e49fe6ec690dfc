/- The document's Decimal, none. -/
import Derived.Test.YtbanmggkfpnalaaGreatDoorPrSrc
import Derived.Test.YtbanmggkfpnalaaGreatDoorGTold
import Derived.Test.YtbanmggkfpnalaaGreatDoorRefPat
set_option linter.unusedVariables false
set_option linter.unusedSimpArgs false
namespace Go.Proofs.YtbanmggkfpnalaaGreatDoor
open Go.RowKit Ru

theorem t14a : setB [(97, 99)] = ⟨#[91, 97, 45, 99, 93]⟩ := by decide +kernel
theorem t14b : setB [(45, 45)] = ⟨#[92, 117, 123, 50, 68, 125]⟩ := by decide +kernel
theorem t14c : reP (.mk 5 [] [.mk 4 [] [.mk 2 [(97, 97)] [], .mk 1 [] []]]) = ⟨#[40, 97, 124, 40, 41, 41, 42]⟩ := by decide +kernel
theorem t14d : patP (.mk 3 [⟨#[111]⟩] [⟨#[99]⟩] [.mk 4 [] [] []]) = ⟨#[60, 111, 58, 95, 58, 99, 62]⟩ := by decide +kernel
theorem t14f : srcB [] [] = (⟨#[]⟩, 6) := by decide +kernel
theorem t14g : reP (.mk 9 [] []) = ⟨#[]⟩ := by decide +kernel
theorem t14e : srcB T0 [] = (⟨("tok a int 1 = /a/\ntok b int 2 = /[\\u{A}b]/\ntok o call 3 = /c/\ntok c ret 4 = /d/\n".toUTF8).data⟩, 0) := by decide +kernel
end Go.Proofs.YtbanmggkfpnalaaGreatDoor

namespace Go.Proofs.YtbanmggkfpnalaaGreatDoor
open Go.RowKit Ru

theorem re_leaf (k : Int) (w : World) : ReIs w (.mk k [] []) (.slice none 0 0) (.slice none 0 0) :=
  .mk k [] [] _ _ [] (Row.nil w) (Row.nil w) rfl (fun i e p h => by simp at h) (fun i e p h => by simp at h)
theorem rus_nil (w : World) : RusAre w (.slice none 0 0) [] := ⟨[], rfl, Row.nil w, fun i p h => by simp at h⟩
theorem tks_nil (w : World) : TksAre w (.slice none 0 0) [] := ⟨[], rfl, Row.nil w, fun i p h => by simp at h⟩
theorem tree14 {W : World} {r s t : Nat} (h0 : W.heap[r]? = some (.cells #[.int .i32 97, .int .i32 97] 53 (0, 0)))
    (h1 : W.heap[s]? = some (.cells #[.int .i64 2, .slice (some ⟨r, 0, none⟩) 1 1, .slice none 0 0, .int .i64 1, .slice none 0 0, .slice none 0 0] 25 (0, 0)))
    (h2 : W.heap[t]? = some (.cells #[.int .i64 4, .slice none 0 0, .slice (some ⟨s, 0, none⟩) 2 2] 25 (0, 0))) :
    ReIs W (.mk 5 [] [.mk 4 [] [.mk 2 [(97, 97)] [], .mk 1 [] []]]) (.slice none 0 0) (.slice (some ⟨t, 0, none⟩) 1 1) := by
  have a : ReIs W (.mk 2 [(97, 97)] []) (.slice (some ⟨r, 0, none⟩) 1 1) (.slice none 0 0) := re_set [(97, 97)] 1 rfl (by decide) h0
  have b := re_leaf 1 W
  have c : ReIs W (.mk 4 [] [.mk 2 [(97, 97)] [], .mk 1 [] []]) (.slice none 0 0) (.slice (some ⟨s, 0, none⟩) 2 2) := by
    refine .mk 4 [] _ _ _ [(2, .slice (some ⟨r, 0, none⟩) 1 1, .slice none 0 0), (1, .slice none 0 0, .slice none 0 0)] (Row.nil W) (Row.owned (row_block h1 (size := 3) rfl (by decide))) rfl ?_ ?_
    · intro i e p he hp
      match i, he, hp with
      | 0, he, hp => cases he; cases hp; rfl
      | 1, he, hp => cases he; cases hp; rfl
      | i + 2, he, hp => simp at he
    · intro i e p he hp
      match i, he, hp with
      | 0, he, hp => cases he; cases hp; exact a
      | 1, he, hp => cases he; cases hp; exact b
      | i + 2, he, hp => simp at he
  refine .mk 5 [] _ _ _ [(4, .slice none 0 0, .slice (some ⟨s, 0, none⟩) 2 2)] (Row.nil W) (Row.owned (row_block h2 (size := 3) rfl (by decide))) rfl ?_ ?_
  · intro i e p he hp
    match i, he, hp with
    | 0, he, hp => cases he; cases hp; rfl
    | i + 1, he, hp => simp at he
  · intro i e p he hp
    match i, he, hp with
    | 0, he, hp => cases he; cases hp; exact c
    | i + 1, he, hp => simp at he
theorem re_fit0 (k : Int) (s : List (Int × Int)) (hs : i32s s) (hn : s.length ≤ 1000) : RE.Fit (.mk k s []) := .mk k s [] hs hn (by simp) (fun i e h => by simp at h)
theorem tree14_fit : RE.Fit (.mk 5 [] [.mk 4 [] [.mk 2 [(97, 97)] [], .mk 1 [] []]]) := by
  have a : RE.Fit (.mk 2 [(97, 97)] []) := re_fit0 _ _ (by intro x hx; simp at hx; subst hx; simp) (by simp)
  have b : RE.Fit (.mk 1 [] []) := re_fit0 _ _ (by intro x hx; simp at hx) (by simp)
  refine .mk _ _ _ (by intro x hx; simp at hx) (by simp) (by simp) (fun i e h => ?_)
  match i, h with
  | 0, h =>
    cases h
    refine .mk _ _ _ (by intro x hx; simp at hx) (by simp) (by simp) (fun i e h => ?_)
    match i, h with
    | 0, h => cases h; exact a
    | 1, h => cases h; exact b
    | i + 2, h => simp at h
  | i + 1, h => simp at h
theorem pt_leaf (k : Int) (w : World) : PtIs w (.mk k [] [] []) (.slice none 0 0) (.slice none 0 0) (.slice none 0 0) :=
  .mk k [] [] [] _ _ _ [] (Row.nil w) (Row.nil w) (Row.nil w) rfl (fun i e p h => by simp at h) (fun i e p h => by simp at h)
theorem pt14 {W : World} {a b c : Nat} (h0 : W.heap[a]? = some (.cells #[.string ⟨#[111]⟩] 9 (0, 0))) (h1 : W.heap[b]? = some (.cells #[.string ⟨#[99]⟩] 9 (0, 0)))
    (h2 : W.heap[c]? = some (.cells #[.int .i64 4, .slice none 0 0, .slice none 0 0, .slice none 0 0] 47 (0, 0))) :
    PtIs W (.mk 3 [⟨#[111]⟩] [⟨#[99]⟩] [.mk 4 [] [] []]) (.slice (some ⟨a, 0, none⟩) 1 1) (.slice (some ⟨b, 0, none⟩) 1 1) (.slice (some ⟨c, 0, none⟩) 1 1) := by
  refine .mk 3 _ _ _ _ _ _ [(4, .slice none 0 0, .slice none 0 0, .slice none 0 0)] (Row.owned (row_block h0 (size := 1) rfl (by decide))) (Row.owned (row_block h1 (size := 1) rfl (by decide))) (Row.owned (row_block h2 (size := 4) rfl (by decide))) rfl ?_ ?_
  · intro i e p he hp
    match i, he, hp with
    | 0, he, hp => cases he; cases hp; rfl
    | i + 1, he, hp => simp at he
  · intro i e p he hp
    match i, he, hp with
    | 0, he, hp => cases he; cases hp; exact pt_leaf 4 W
    | i + 1, he, hp => simp at he
theorem pt14_fit : PT.Fit (.mk 3 [⟨#[111]⟩] [⟨#[99]⟩] [.mk 4 [] [] []]) := by
  refine .mk _ _ _ _ (by simp) (by simp) (by simp) (fun i e h => ?_)
  match i, h with
  | 0, h => cases h; exact .mk _ _ _ _ (by simp) (by simp) (by simp) (fun i e h => by simp at h)
  | i + 1, h => simp at h
theorem shorts1 (x : ByteArray) (h : x.size ≤ 1000) : Shorts [x] := ⟨by simp, fun y hy => by simp at hy; subst hy; exact h⟩
theorem pt14_shn : PT.Shn (.mk 3 [⟨#[111]⟩] [⟨#[99]⟩] [.mk 4 [] [] []]) := by
  refine .mk _ _ _ _ (shorts1 _ (by decide)) (shorts1 _ (by decide)) (fun i e h => ?_)
  match i, h with
  | 0, h => cases h; exact .mk _ _ _ _ (shorts_nil rfl) (shorts_nil rfl) (fun i e h => by simp at h)
  | i + 1, h => simp at h
theorem three_world (k w : World) (o1 o2 o3 : Obj) (h : Below w.heap.size w k) :
    Below w.heap.size w (((k.alloc o1).alloc o2).alloc o3) ∧ (((k.alloc o1).alloc o2).alloc o3).heap[k.heap.size]? = some o1 ∧ (((k.alloc o1).alloc o2).alloc o3).heap[k.heap.size + 1]? = some o2 ∧ (((k.alloc o1).alloc o2).alloc o3).heap[k.heap.size + 1 + 1]? = some o3 := by
  obtain ⟨hb, h1, h2⟩ := two_world k w o1 o2 h
  have hs := hb.size
  refine ⟨hb.alloc hs _, ?_, ?_, ?_⟩
  · rw [Below.heap_alloc _ _ _ (get_lt h1)]; exact h1
  · rw [Below.heap_alloc _ _ _ (get_lt h2)]; exact h2
  · have := heap_alloc_new ((k.alloc o1).alloc o2) o3
    simpa using this
set_option maxHeartbeats 4000000 in
set_option maxRecDepth 100000 in
theorem told14_any (w : World) (hT : TZ w) : Calls Tryz.prog 7 #[] w fun e w' => e = .returned (.bool true) ∧ Below w.heap.size w w' := by
  have hsr := fun tv (w' : World) (hb : Below w.heap.size w w') (ht : TksAre w' tv T0) => prSource_any T0 [] tv (.slice none 0 0) w' ht (rus_nil w') (by decide) (by decide) T0_fit (fun i r h => by simp at h) (hT.moved hb)
  have hs0 := fun (w' : World) (hb : Below w.heap.size w w') => prSource_any [] [] (.slice none 0 0) (.slice none 0 0) w' (tks_nil w') (rus_nil w') (by decide) (by decide) (fun i r h => by simp at h) (fun i r h => by simp at h) (hT.moved hb)
  rw [t14e] at hsr
  rw [t14f] at hs0
  obtain ⟨S, hS⟩ : ∃ S : ByteArray, S = ⟨("tok a int 1 = /a/\ntok b int 2 = /[\\u{A}b]/\ntok o call 3 = /c/\ntok c ret 4 = /d/\n".toUTF8).data⟩ := ⟨_, rfl⟩
  simp only [← hS] at hsr
  have HSR := Lib.hid hsr
  have HS0 := Lib.hid hs0
  have HTZ := Lib.hid hT
  have HMK := Lib.hid (fun w' => mk0_any w')
  have HON := Lib.hid (fun w' => one_exact 97 w')
  have hq : S.toList = [116, 111, 107, 32, 97, 32, 105, 110, 116, 32, 49, 32, 61, 32, 47, 97, 47, 10, 116, 111, 107, 32, 98, 32, 105, 110, 116, 32, 50, 32, 61, 32, 47, 91, 92, 117, 123, 65, 125, 98, 93, 47, 10, 116, 111, 107, 32, 111, 32, 99, 97, 108, 108, 32, 51, 32, 61, 32, 47, 99, 47, 10, 116, 111, 107, 32, 99, 32, 114, 101, 116, 32, 52, 32, 61, 32, 47, 100, 47, 10] := by rw [hS]; decide +kernel
  have HS := Lib.hid hq
  clear hq
  clear hsr hs0 hT hS
  go_enter Tryz.func7, Tryz.ntmps7
  go_wp2_with fail
  refine (HMK.out _).mono ?_
  rintro e w2 ⟨pt, ra, rb, rc, rd, rfl, hmk⟩
  have HB2 := Lib.hid hmk.bel
  have HT2 := Lib.hid hmk.toks
  clear hmk
  go_wp2_with fail
  refine (HSR.out _ _ (bel_new HB2.out _) (HT2.out.moved (bel_new (Below.refl _ _) _))).mono ?_
  rintro e w3 ⟨rfl, hb3⟩
  have HB3 := Lib.hid (bel_then (bel_new HB2.out _) hb3)
  clear hb3
  go_wp2_with fail
  refine (HS0.out _ HB3.out).mono ?_
  rintro e w4 ⟨rfl, hb4⟩
  have HB4 := Lib.hid (bel_then HB3.out hb4)
  clear hb4
  go_wp2_with fail
  refine (HON.out _).mono ?_
  rintro e w5 ⟨rfl, rfl⟩
  go_upto_region 5 with (fail)
  obtain ⟨hbx, -, hr, ha⟩ := three_world w4 w (.cells #[.int .i64 2, .slice (some ⟨w4.heap.size + 1, 0, none⟩) 1 1, .slice none 0 0] 25) (.cells #[.int .i32 97, .int .i32 97] 53) (.cells #[.int .i64 2, .slice (some ⟨w4.heap.size + 1, 0, none⟩) 1 1, .slice none 0 0] 25) HB4.out
  obtain ⟨W, hW⟩ : ∃ W, W = (((w4.alloc (.cells #[.int .i64 2, .slice (some ⟨w4.heap.size + 1, 0, none⟩) 1 1, .slice none 0 0] 25)).alloc (.cells #[.int .i32 97, .int .i32 97] 53)).alloc (.cells #[.int .i64 2, .slice (some ⟨w4.heap.size + 1, 0, none⟩) 1 1, .slice none 0 0] 25)) := ⟨_, rfl⟩
  rw [← hW] at hbx hr ha ⊢
  clear hW
  obtain ⟨pr, hpr⟩ : ∃ p, p = w4.heap.size + 1 := ⟨_, rfl⟩
  rw [← hpr] at hr ha ⊢
  obtain ⟨pa, hpa⟩ : ∃ p, p = pr + 1 := ⟨_, rfl⟩
  rw [← hpa] at ha ⊢
  clear hpr hpa
  have HBW := Lib.hid hbx
  have HR0 := Lib.hid hr
  have HA0 := Lib.hid ha
  have HSET := Lib.hid (fun (a b : Int) (hok : ROK (a, b)) (k : World) (p : Nat) (hp : p = k.heap.size) (hk : Below w.heap.size w k) => show Calls Tryz.prog 9 #[.slice (some ⟨p, 0, none⟩) 1 1] (k.alloc (.cells #[.int .i32 a, .int .i32 b] 53)) fun e w' => e = .returned (.string (setB [(a, b)])) ∧ Below k.heap.size k w' from by
    subst hp
    refine (prSet_any [(a, b)] _ _ (Row.litK k _ .i32 [(a, b)] 1 rfl (by decide)) (fun x hx => by simp at hx; subst hx; exact hok) (by simp) (HTZ.out.moved (hk.alloc hk.size _))).mono ?_
    rintro e w' ⟨rfl, hb⟩
    exact ⟨rfl, bel_then ((Below.refl _ _).alloc (Nat.le_refl _) _) hb⟩)
  clear hbx hr ha
  go_wp2_with fail
  refine (HSET.out 97 99 (by unfold ROK; simp) W _ rfl HBW.out).mono ?_
  rintro e w6 ⟨rfl, hb6⟩
  have HB6 := Lib.hid hb6
  clear hb6
  rw [t14a]
  go_wp2_with fail
  refine (HSET.out 45 45 (by unfold ROK; simp) w6 _ rfl (bel_then HBW.out HB6.out)).mono ?_
  rintro e w7 ⟨rfl, hb7⟩
  have HB7 := Lib.hid (bel_then HB6.out hb7)
  clear hb7
  rw [t14b]
  have HR7 := Lib.hid (bel_get HB7.out HR0.out)
  obtain ⟨d0, d1, d2⟩ := cell3_of (bel_get HB7.out HA0.out)
  have HW7 := Lib.hid (bel_then HBW.out HB7.out)
  go_wp2_with fail
  clear d0 d1 d2
  obtain ⟨hb8, x0, x1⟩ := two_world w7 w (.cells #[.int .i64 2, .slice (some ⟨pr, 0, none⟩) 1 1, .slice none 0 0, .int .i64 1, .slice none 0 0, .slice none 0 0] 25) (.cells #[.int .i64 4, .slice none 0 0, .slice (some ⟨w7.heap.size, 0, none⟩) 2 2] 25) HW7.out
  have hre := prRe_any (.mk 5 [] [.mk 4 [] [.mk 2 [(97, 97)] [], .mk 1 [] []]]) _ _ _ (tree14 (by rw [Below.heap_alloc _ _ _ (by have := get_lt HR7.out; simp; omega), Below.heap_alloc _ _ _ (get_lt HR7.out)]; exact HR7.out) x0 x1) tree14_fit (HTZ.out.moved hb8)
  rw [t14c] at hre
  refine hre.mono ?_
  rintro e w8 ⟨rfl, hb8'⟩
  have HW8 := Lib.hid (bel_then hb8 hb8')
  clear hre hb8 x0 x1 hb8'
  go_wp2_with fail
  obtain ⟨hb9, y0, y1, y2⟩ := three_world w8 w (.cells #[.string ⟨#[111]⟩] 9) (.cells #[.string ⟨#[99]⟩] 9) (.cells #[.int .i64 4, .slice none 0 0, .slice none 0 0, .slice none 0 0] 47) HW8.out
  have hpt := prPat_any (.mk 3 [⟨#[111]⟩] [⟨#[99]⟩] [.mk 4 [] [] []]) _ _ _ _ (pt14 y0 y1 y2) pt14_fit pt14_shn
  rw [t14d] at hpt
  refine hpt.mono ?_
  rintro e w9 ⟨rfl, hb9'⟩
  have HW9 := Lib.hid (bel_then hb9 hb9')
  clear hpt hb9 y0 y1 y2 hb9'
  have hq := HS.out
  go_wp2_with fail
  have hre := fun w' (hb : Below w.heap.size w w') => prRe_any (.mk 9 [] []) _ _ w' (re_leaf 9 w') (re_fit0 _ _ (by intro x hx; simp at hx) (by simp)) (HTZ.out.moved hb)
  simp only [t14g] at hre
  refine (hre _ HW9.out).mono ?_
  rintro e w10 ⟨rfl, hb10⟩
  have HW10 := Lib.hid (bel_then HW9.out hb10)
  clear hre hb10 hq
  go_wp2_with fail
  go_ret
  exact ⟨rfl, HW10.out⟩
end Go.Proofs.YtbanmggkfpnalaaGreatDoor

namespace Go.Proofs.YtbanmggkfpnalaaGreatDoor
open Go.RowKit Ru

def digB (k : Nat) : ByteArray := ⟨#[UInt8.ofNat (48 + k)]⟩
theorem dec_small (m : Nat) (h : m < 10) : decB (m : Int) = digB m := by
  have : ∀ m : Nat, m < 10 → Lib.decDigits m = [UInt8.ofNat (48 + m)] := by decide +kernel
  unfold decB digB
  rw [show ((m : Int)).toNat = m by omega, this m h]
theorem dec_big (m : Nat) (h : 10 ≤ m) (h2 : m ≤ 31) : decB (m : Int) = decB ((m / 10 : Nat) : Int) ++ digB (m % 10) := by
  have : ∀ m : Nat, m < 32 → 10 ≤ m → Lib.decDigits m = Lib.decDigits (m / 10) ++ [UInt8.ofNat (48 + m % 10)] := by decide +kernel
  unfold decB digB
  rw [show ((m : Int)).toNat = m by omega, show (((m / 10 : Nat) : Int)).toNat = m / 10 by omega, this m (by omega) h]
  apply ByteArray.ext
  simp
theorem dec_cut (k : Nat) (h : k < 10) (x y : Int) (hx : x = (k : Int)) (hy : y = (k : Int) + 1) (w : World) : (Instr.sliceAt 9 (.string ⟨#[48, 49, 50, 51, 52, 53, 54, 55, 56, 57]⟩) (some (.int .i64 x)) (some (.int .i64 y)) none).run Tryz.prog w = .ok (.string (digB k)) w := by
  subst hx; subst hy
  have e : ∀ k : Nat, k < 10 → (⟨#[48, 49, 50, 51, 52, 53, 54, 55, 56, 57]⟩ : ByteArray).extract k (k + 1) = digB k := by decide
  have h1 := run_slice_string (P := Tryz.prog) (w := w) 9 ⟨#[48, 49, 50, 51, 52, 53, 54, 55, 56, 57]⟩ .i64 .i64 (k : Int) ((k : Int) + 1) Tryz.underlying9 (by omega) (by omega) (by show (k : Int) + 1 ≤ 10; omega)
  rw [run_sliceAt_string w _ _ _ _ _ Tryz.underlying9, h1]
  have e1 : ((k : Int)).toNat = k := by omega
  have e2 : ((k : Int) + 1).toNat = k + 1 := by omega
  rw [e1, e2, e k h]
set_option maxHeartbeats 4000000 in
set_option maxRecDepth 100000 in
theorem rdec_any (c : Int) (w : World) (h : 0 ≤ c ∧ c ≤ 31) : Calls Tryz.prog 41 #[.int .i64 c] w fun e w' => e = .returned (.string (decB c)) ∧ w' = w := by
  obtain ⟨n, rfl⟩ : ∃ n : Nat, c = (n : Int) := ⟨c.toNat, by omega⟩
  have hn : n ≤ 31 := by omega
  have HZ := Lib.hid (decB_size h)
  clear h
  go_enter Tryz.func41, Tryz.ntmps41
  go_upto_region 2 with (fail)
  go_loopg [0, 3] n (fun g s0 s3 wx => ∃ (m : Nat) (S : ByteArray), m ≤ g ∧ s0 = .int .i64 (m : Int) ∧ s3 = .string S ∧ decB (n : Int) = decB (m : Int) ++ S ∧ m ≤ n ∧ wx = w)
  case atStart => exact ⟨n, ⟨#[]⟩, Nat.le_refl _, rfl, rfl, by apply ByteArray.ext; simp, Nat.le_refl _, rfl⟩
  case round =>
    obtain ⟨m, S, hmg, rfl, rfl, hU, hmn, e⟩ := hrel
    have e2 := e.symm
    subst e2
    have hm9 : m ≤ 31 := by omega
    have hSz : S.size ≤ 2 := by
      have h := congrArg ByteArray.size hU
      have := HZ.out
      rw [ByteArray.size_append] at h; omega
    have hu1 : ¬ 9223372036854775807 < 1 + S.size := by omega
    have HU := Lib.hid hU
    clear hU
    by_cases h16 : m < 10
    · have d1 : decide ((9 : Int) < (m : Int)) = false := by simp; omega
      have d2 : decide (9 < m) = false := by simp; omega
      have hsl := fun w' => dec_cut m h16 (m : Int) ((m : Int) + 1) rfl rfl w'
      have hdz : (digB m).size = 1 := rfl
      go_wp2_with fail
      go_ret
      refine ⟨?_, rfl⟩
      rw [HU.out, dec_small m h16]
      rfl
    · have d1 : decide ((9 : Int) < (m : Int)) = true := by simp; omega
      have d2 : decide (9 < m) = true := by simp; omega
      have he : (⟨#[48, 49, 50, 51, 52, 53, 54, 55, 56, 57]⟩ : ByteArray).extract (m % 10) (m % 10 + 1) = digB (m % 10) := by
        have e : ∀ k : Nat, k < 10 → (⟨#[48, 49, 50, 51, 52, 53, 54, 55, 56, 57]⟩ : ByteArray).extract k (k + 1) = digB k := by decide
        exact e _ (Nat.mod_lt _ (by decide))
      cases gk with
      | zero => omega
      | succ g =>
        have HE := Lib.hid he
        clear he
        go_wp2_with fail
        go_roundg g
        case measure => omega
        case rel =>
          refine ⟨m / 10, digB (m % 10) ++ S, by omega, by simp, by rw [HE.out], ?_, by omega, rfl⟩
          rw [HU.out, dec_big m (by omega) hm9, ByteArray.append_assoc]
def NoneIH (N : Nat) : Prop := ∀ (e : RE) (sv lv : Value) (w : World), e.size ≤ N → e.size ≤ 1000 → ReIs w e sv lv →
  Calls Tryz.prog 40 #[.agg #[.int .i64 e.kind, sv, lv]] w fun x w' => x = .returned (.bool e.nn) ∧ Below w.heap.size w w'
theorem parts_le (e : RE) : e.parts.length < e.size := by
  have all : ∀ l : List RE, l.length ≤ RE.sizes l := by
    intro l
    induction l with
    | nil => simp
    | cons a l ih => rw [RE.sizes_cons]; have := a.size_pos; simp; omega
  cases e with
  | mk k s l => rw [RE.size_mk]; have := all l; show l.length < _; omega
set_option maxHeartbeats 8000000 in
set_option maxRecDepth 100000 in
theorem rnone_step (N : Nat) (ih : NoneIH N) : NoneIH (N + 1) := by
  intro e sv lv w hs hs2 hr
  obtain ⟨⟨o1, q1, rfl⟩, ⟨o2, q2, rfl⟩⟩ := hr.form
  have hpl := parts_le e
  have HPC := Lib.hid (show ∀ (j : Nat) (p : RE), e.parts[j]? = some p → ∃ b off so sn sq lo ln lq, o2 = some ⟨b, off, none⟩ ∧ b < w.heap.size ∧ w.cell? ⟨b, off + j * 3, none⟩ = some (.int .i64 p.kind) ∧ w.cell? ⟨b, off + j * 3 + 1, none⟩ = some (.slice so sn sq) ∧ w.cell? ⟨b, off + j * 3 + 2, none⟩ = some (.slice lo ln lq) ∧
      ∀ w', Below w.heap.size w w' → Calls Tryz.prog 40 #[.agg #[.int .i64 p.kind, .slice so sn sq, .slice lo ln lq]] w' fun x w'' => x = .returned (.bool p.nn) ∧ Below w'.heap.size w' w'' from fun j p hp => by
    obtain ⟨b, off, cap, s', l', hlv, hb, z0, z1, z2, hpi⟩ := hr.part hp
    cases hlv
    have hpi0 := hpi
    obtain ⟨⟨so, sq, rfl⟩, ⟨lo, lq, rfl⟩⟩ := hpi.form
    exact ⟨b, off, so, _, sq, lo, _, lq, rfl, hb, z0, z1, z2, fun w' hb' => ih p _ _ w' (by have := RE.size_part hp; omega) (by have := RE.size_part hp; omega) (hpi0.moved hb')⟩)
  have HNN := Lib.hid (RE.nn_eq e)
  have HNT := Lib.hid (show ∀ p ∈ e.parts, p.nn = true → e.nn = true from fun p hp h => by rw [RE.nn_eq, (RE.nnL_iff _).2 ⟨p, hp, h⟩, Bool.or_true])
  obtain ⟨n, hn⟩ : ∃ n, n = e.parts.length := ⟨_, rfl⟩
  obtain ⟨a, ha⟩ : ∃ n, n = e.set.length := ⟨_, rfl⟩
  obtain ⟨k, hk⟩ : ∃ n, n = e.kind := ⟨_, rfl⟩
  have HM := Lib.hid hn
  have HK := Lib.hid hk
  rw [← hn] at hpl
  rw [← hn, ← ha, ← hk]
  have hn9 : n ≤ 1000 := by omega
  clear hr hs hs2 hpl hn ha hk ih
  obtain ⟨wB, hwB⟩ : ∃ wB, wB = w.alloc (.cells #[.int .i64 k, .slice o1 a q1, .slice o2 n q2] 25) := ⟨_, rfl⟩
  have HWB := Lib.hid (show Below w.heap.size w wB ∧ wB.cell? ⟨w.heap.size, 2, none⟩ = some (.slice o2 n q2) ∧ wB.cell? ⟨w.heap.size, 0, none⟩ = some (.int .i64 k) by rw [hwB]; exact ⟨bel_new (Below.refl _ _) _, by simp [go_sem], by simp [go_sem]⟩)
  go_enter Tryz.func40, Tryz.ntmps40
  go_upto_region 2 with (fail)
  rw [← hwB]
  clear hwB
  go_loopg [3] n (fun g s3 wx => ∃ j : Nat, j + g = n ∧ s3 = .int .i64 (j : Int) ∧ (∀ i p, i < j → e.parts[i]? = some p → p.nn = false) ∧ Below w.heap.size w wx ∧ wx.cell? ⟨w.heap.size, 2, none⟩ = some (.slice o2 n q2) ∧ wx.cell? ⟨w.heap.size, 0, none⟩ = some (.int .i64 k))
  case atStart => exact ⟨0, by omega, rfl, fun i p h => by omega, HWB.out⟩
  case round =>
    obtain ⟨j, hjg, rfl, hno, hbel, e2, e0⟩ := hrel
    have HBE := Lib.hid hbel
    have HNO := Lib.hid hno
    clear hno
    cases gk with
    | zero =>
      obtain rfl : j = n := by omega
      have x1 : decide ((j : Int) < (j : Int)) = false := by simp
      have x2 : decide (j < j) = false := by simp
      have HX := Lib.hid (show e.nn = (k == 0) by
        rw [HNN.out, RE.nnL_not (fun i hi p hp => HNO.out i p (by have := HM.out; omega) hp), HK.out, Bool.or_false]
        by_cases h : e.kind = 0 <;> simp [h])
      obtain ⟨b, hb⟩ : ∃ b, b = (k == 0) := ⟨_, rfl⟩
      have hb2 := hb.symm
      rw [← hb] at HX
      clear hbel hb
      go_wp2_with fail
      go_ret
      exact ⟨by rw [HX.out]; first | rfl | (rw [← hb2]; rfl), HBE.out⟩
    | succ g =>
      have hj : j < n := by omega
      obtain ⟨p, hp⟩ : ∃ p, e.parts[j]? = some p := ⟨_, List.getElem?_eq_getElem (by have := HM.out; omega)⟩
      obtain ⟨b, off, so, sn, sq, lo, ln, lq, rfl, hlb, z0, z1, z2, hcal⟩ := HPC.out j p hp
      have x1 : decide ((j : Int) < (n : Int)) = true := by simp; omega
      have x2 : decide (j < n) = true := by simpa using hj
      have hk1 : (0 : Int) ≤ (j : Int) := by omega
      have hk2 : (j : Int) < (n : Int) := by omega
      have HPT := Lib.hid (fun h => HNT.out p (List.mem_of_getElem? hp) h)
      have HP := Lib.hid hp
      replace z0 := cell_later hbel z0
      replace z1 := cell_later hbel z1
      replace z2 := cell_later hbel z2
      obtain ⟨m, hm⟩ : ∃ m, m = p.nn := ⟨_, rfl⟩
      obtain ⟨pk, hpk⟩ : ∃ m, m = p.kind := ⟨_, rfl⟩
      rw [← hm, ← hpk] at hcal
      rw [← hpk] at z0
      have HPM := Lib.hid hm
      have HCAL := Lib.hid hcal
      clear hcal hp hbel hlb hm hpk
      go_wp2_with fail
      refine (HCAL.out _ HBE.out).mono ?_
      rintro x w3 ⟨rfl, hb3⟩
      have HB3 := Lib.hid (bel_then HBE.out hb3)
      replace e2 := cell_later hb3 e2
      replace e0 := cell_later hb3 e0
      clear hb3 z0 z1 z2
      cases m with
      | true =>
        have HX := Lib.hid (HPT.out HPM.out.symm)
        go_wp2_with fail
        go_ret
        exact ⟨by rw [HX.out]; rfl, HB3.out⟩
      | false =>
        go_wp2_with fail
        go_roundg g
        case measure => omega
        case rel =>
          refine ⟨j + 1, by omega, by simp, fun i q hi hq => ?_, HB3.out, e2, e0⟩
          rcases Nat.lt_or_ge i j with h | h
          · exact HNO.out i q h hq
          · obtain rfl : i = j := by omega
            rw [HP.out] at hq; cases hq; exact HPM.out.symm
theorem rnone_all : ∀ N, NoneIH N
  | 0 => by intro e sv lv w hs; have := RE.size_pos e; omega
  | N + 1 => rnone_step N (rnone_all N)
end Go.Proofs.YtbanmggkfpnalaaGreatDoor
