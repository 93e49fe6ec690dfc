/- Merged. -/
import Derived.Test.YtfkmajjgkdjncaaGreatDoorChecked
import Derived.Test.YtfkmajjgkdjncaaGreatDoorProg
import Derived.WalkKit
import Derived.Laws.BytesArg
import Derived.Test.YtfkmajjgkdjncaaGreatDoorPdTold
import Derived.IntWalk
import Derived.Test.YtfkmajjgkdjncaaGreatDoorM6W
set_option linter.unusedVariables false
set_option linter.unusedSimpArgs false
namespace Go.Proofs.YtfkmajjgkdjncaaGreatDoor
open Go.RowKit
theorem conv_row {w : World} {o : Option Addr} {n cap : Nat} {bs : List Int} (hn : n = bs.length) (hr : Row w (.slice o n cap) n (bs.map (Value.int .u8))) :
 (convert 84 9 (.slice o n cap)).run Tryz.prog w = .ok (.string (strOfNums bs)) w := by
 subst hn
 obtain ⟨o', cap', e, hc, hm, hrow⟩ := hr
 simp only [Value.slice.injEq, true_and] at e
 obtain ⟨rfl, rfl⟩ := e
 rcases hrow with ⟨h0, h1⟩ | ⟨b, off, rfl, hlt, hcell⟩
 · have hb : bs = [] := List.eq_nil_of_length_eq_zero h0
   subst hb
   cases o with
   | none => exact run_convert_bytes_nil w 84 5 Tryz.underlying84 Tryz.underlying5 _ _ 9 Tryz.underlying9
   | some a =>
    show (convert 84 9 (.slice (some a) 0 cap)).run Tryz.prog w = _
    rw [run_convert_bytes_string w 84 9 5 (some a) 0 cap Tryz.underlying84 Tryz.underlying5 Tryz.underlying9,
     run_bytesToString w _ 0 cap [] (by simpa using run_loadCells_list (P := Tryz.prog) w a [] (fun j v hj => by simp at hj))]
    rfl
 · exact run_convert_bytes_arg w 84 5 Tryz.underlying84 Tryz.underlying5 b off bs.length cap bs rfl (fun i hi => hcell i _ (getElem?_ints hi)) 9 Tryz.underlying9
theorem Row.lit (w : World) (e : TypeId) (cs : List Value) (n : Nat) (h : cs.length = n) (hm : n ≤ maxLen) : Row (w.alloc (.cells cs.toArray e)) (.slice (some ⟨w.heap.size, 0, none⟩) n n) n cs := by
 have h1 := World.ownsRow_lit (e := e) (base := w.heap.size) (size := 1) w cs.toArray n (Nat.le_refl _) hm (by simpa using h)
 simpa using Row.owned h1
theorem conv_lit (w : World) (bs : List Int) (n : Nat) (hn : n = bs.length) (hm : n ≤ 100) : (convert 84 9 (.slice (some ⟨w.heap.size, 0, none⟩) n n)).run Tryz.prog (w.alloc (.cells (bs.map (Value.int .u8)).toArray 5)) = .ok (.string (strOfNums bs)) (w.alloc (.cells (bs.map (Value.int .u8)).toArray 5)) :=
 conv_row hn (Row.lit w 5 (bs.map (Value.int .u8)) n (by simp [hn]) (by unfold maxLen; omega))
end Go.Proofs.YtfkmajjgkdjncaaGreatDoor

set_option maxHeartbeats 4000000
set_option maxRecDepth 100000
namespace Go.Proofs.YtfkmajjgkdjncaaGreatDoor
open Go.RowKit
def hexg (k : Nat) : UInt8 := if k < 10 then UInt8.ofNat (48 + k) else UInt8.ofNat (55 + k)
theorem hexU_small {n : Nat} (h : n < 16) : hexU n = ⟨#[hexg n]⟩ := by
 have : ∀ k : Nat, k < 16 → Lib.toUpperA [hexd k] = [hexg k] := by decide
 unfold hexU; rw [hexN_small h, this n h]
theorem hexU_big {n : Nat} (h : ¬ n < 16) : hexU n = hexU (n / 16) ++ ⟨#[hexg (n % 16)]⟩ := by
 have : ∀ k : Nat, k < 16 → Lib.toUpperA [hexd k] = [hexg k] := by decide
 unfold hexU; rw [hexN_big h]
 have e : Lib.toUpperA (hexN (n / 16) ++ [hexd (n % 16)]) = Lib.toUpperA (hexN (n / 16)) ++ Lib.toUpperA [hexd (n % 16)] := by simp [Lib.toUpperA]
 rw [e, this _ (Nat.mod_lt _ (by decide))]
 apply congrArg ByteArray.mk
 simp
theorem hex_cut (k : Nat) (h : k < 16) (x y : Int) (hx : x = (k : Int)) (hy : y = (k : Int) + 1) (w : World) : (Instr.sliceAt 9 (.string ⟨#[48, 49, 50, 51, 52, 53, 54, 55, 56, 57, 65, 66, 67, 68, 69, 70]⟩) (some (.int .i32 x)) (some (.int .i32 y)) none).run Tryz.prog w = .ok (.string ⟨#[hexg k]⟩) w := by
 subst hx; subst hy
 have e : ∀ k : Nat, k < 16 → (⟨#[48, 49, 50, 51, 52, 53, 54, 55, 56, 57, 65, 66, 67, 68, 69, 70]⟩ : ByteArray).extract k (k + 1) = ⟨#[hexg k]⟩ := by decide
 have h1 := run_slice_string (P := Tryz.prog) (w := w) 9 ⟨#[48, 49, 50, 51, 52, 53, 54, 55, 56, 57, 65, 66, 67, 68, 69, 70]⟩ .i32 .i32 (k : Int) ((k : Int) + 1) Tryz.underlying9 (by omega) (by omega) (by show (k : Int) + 1 ≤ 16; omega)
 rw [run_sliceAt_string w _ _ _ _ _ Tryz.underlying9, h1]
 have e1 : ((k : Int)).toNat = k := by omega
 have e2 : ((k : Int) + 1).toNat = k + 1 := by omega
 rw [e1, e2, e k h]
theorem hexU_len {n : Nat} (h : n < 16777216) : (hexU n).size ≤ 6 := by
 have := hexN_len 5 n (by simpa using h)
 show (Lib.toUpperA (hexN n)).toArray.size ≤ 6
 rw [List.size_toArray]
 simp only [Lib.toUpperA, List.length_map]
 omega
theorem alnum_nat (n : Nat) : alnum (n : Int) = (decide (n < 128) && (smB n || dgB n || (decide (65 ≤ n) && decide (n ≤ 90)))) := by
 rw [Bool.eq_iff_iff]
 unfold alnum smB dgB
 simp
 omega
theorem rhex_any (r : Int) (w : World) (h0 : 0 ≤ r) (h1 : r ≤ 1114111) :
 Calls Tryz.prog 106 #[.int .i32 r] w fun e w' => e = .returned (.string (letB r)) ∧ Below w.heap.size w w' := by
 obtain ⟨n, rfl⟩ : ∃ n : Nat, r = (n : Int) := ⟨r.toNat, by omega⟩
 have HS := Lib.hid (fun w' => refSmall_any n w')
 have HD := Lib.hid (fun w' => refDigit_any n w')
 have HN := Lib.hid (alnum_nat n)
 have hn9 : n ≤ 1114111 := by omega
 clear h0 h1
 obtain ⟨b1, hb1⟩ : ∃ b, b = smB n := ⟨_, rfl⟩
 obtain ⟨b2, hb2⟩ : ∃ b, b = dgB n := ⟨_, rfl⟩
 rw [← hb1] at HS HN
 rw [← hb2] at HD HN
 clear hb1 hb2
 obtain ⟨b, hb⟩ : ∃ b, b = alnum (n : Int) := ⟨_, rfl⟩
 rw [← hb] at HN
 have HB := Lib.hid hb
 clear hb
 go_enter Tryz.func106, Tryz.ntmps106
 go_upto_region 1 with (fail)
 go_cut [23] (fun s23 wx => s23 = .bool b ∧ wx = w)
 case first =>
  by_cases hn : n < 128
  · have x0 : decide ((n : Int) < 128) = true := by simp; omega
    have x0b : decide (n < 128) = true := by simpa using hn
    have hw : IntKind.u8.wrap (n : Int) = (n : Int) := by unfold IntKind.wrap; simp [IntKind.bits, IntKind.signed]; omega
    cases b1 with
    | true =>
     have HX := Lib.hid (show b = true by rw [HN.out, x0b]; rfl)
     go_wp2_with fail
     refine (HS.out _).mono ?_
     rintro e w2 ⟨rfl, rfl⟩
     go_wp2_with fail
     go_meet
     exact ⟨by rw [HX.out], rfl⟩
    | false =>
     cases b2 with
     | true =>
      have HX := Lib.hid (show b = true by rw [HN.out, x0b]; rfl)
      go_wp2_with fail
      refine (HS.out _).mono ?_
      rintro e w2 ⟨rfl, rfl⟩
      go_wp2_with fail
      refine (HD.out _).mono ?_
      rintro e w2 ⟨rfl, rfl⟩
      go_wp2_with fail
      go_meet
      exact ⟨by rw [HX.out], rfl⟩
     | false =>
      by_cases c1 : 65 ≤ n
      · have y0 : decide ((65 : Int) ≤ (n : Int)) = true := by simp; omega
        have y0b : decide (65 ≤ n) = true := by simpa using c1
        by_cases c2 : n ≤ 90
        · have z0 : decide ((n : Int) ≤ 90) = true := by simp; omega
          have z0b : decide (n ≤ 90) = true := by simpa using c2
          have HX := Lib.hid (show b = true by rw [HN.out, x0b, y0b, z0b]; rfl)
          go_wp2_with fail
          refine (HS.out _).mono ?_
          rintro e w2 ⟨rfl, rfl⟩
          go_wp2_with fail
          refine (HD.out _).mono ?_
          rintro e w2 ⟨rfl, rfl⟩
          go_wp2_with fail
          go_meet
          exact ⟨by rw [HX.out], rfl⟩
        · have z0 : decide ((n : Int) ≤ 90) = false := by simp; omega
          have z0b : decide (n ≤ 90) = false := by simpa using c2
          have HX := Lib.hid (show b = false by rw [HN.out, x0b, y0b, z0b]; rfl)
          go_wp2_with fail
          refine (HS.out _).mono ?_
          rintro e w2 ⟨rfl, rfl⟩
          go_wp2_with fail
          refine (HD.out _).mono ?_
          rintro e w2 ⟨rfl, rfl⟩
          go_wp2_with fail
          go_meet
          exact ⟨by rw [HX.out], rfl⟩
      · have y0 : decide ((65 : Int) ≤ (n : Int)) = false := by simp; omega
        have y0b : decide (65 ≤ n) = false := by simpa using c1
        have HX := Lib.hid (show b = false by rw [HN.out, x0b, y0b]; rfl)
        go_wp2_with fail
        refine (HS.out _).mono ?_
        rintro e w2 ⟨rfl, rfl⟩
        go_wp2_with fail
        refine (HD.out _).mono ?_
        rintro e w2 ⟨rfl, rfl⟩
        go_wp2_with fail
        go_meet
        exact ⟨by rw [HX.out], rfl⟩
  · have x0 : decide ((n : Int) < 128) = false := by simp; omega
    have x0b : decide (n < 128) = false := by simpa using hn
    have HX := Lib.hid (show b = false by rw [HN.out, x0b]; rfl)
    go_wp2_with fail
    go_meet
    exact ⟨by rw [HX.out], rfl⟩
 case rest =>
  obtain ⟨rfl, rfl⟩ := hcut
  cases b with
  | true =>
   have HX := Lib.hid (show letB (n : Int) = ⟨#[UInt8.ofNat n]⟩ by unfold letB; rw [if_pos HB.out.symm]; rfl)
   have hn : n < 128 := by have := HB.out; unfold alnum at this; simp at this; omega
   have hw : IntKind.u8.wrap (n : Int) = (n : Int) := by unfold IntKind.wrap; simp [IntKind.bits, IntKind.signed]; omega
   have hcv : (convert 84 9 (.slice (some ⟨wc.heap.size, 0, none⟩) 1 1)).run Tryz.prog (wc.alloc (.cells #[.int .u8 (n : Int)] 5)) = .ok (.string ⟨#[UInt8.ofNat n]⟩) (wc.alloc (.cells #[.int .u8 (n : Int)] 5)) := conv_lit wc [(n : Int)] 1 rfl (by decide)
   have HBL := Lib.hid (show Below wc.heap.size wc (wc.alloc (.cells #[.int .u8 (n : Int)] 5)) from (Below.refl _ _).alloc (Nat.le_refl _) _)
   go_wp2_with fail
   go_ret
   exact ⟨by rw [HX.out]; rfl, HBL.out⟩
  | false =>
   have HX := Lib.hid (show letB (n : Int) = (⟨#[92, 117, 123]⟩ ++ hexU n) ++ ⟨#[125]⟩ by unfold letB; rw [if_neg (by rw [← HB.out]; decide)]; rfl)
   have HZ := Lib.hid (hexU_len (n := n) (by omega))
   go_upto_region 4 with (fail)
   go_loopg [0, 3] n (fun g s0 s3 wx => ∃ (m : Nat) (S : ByteArray), m ≤ g ∧ s0 = .int .i32 (m : Int) ∧ s3 = .string S ∧ hexU n = hexU m ++ S ∧ m ≤ n ∧ wx = wc)
   case atStart => exact ⟨n, ⟨#[]⟩, Nat.le_refl _, rfl, rfl, by apply ByteArray.ext; simp, Nat.le_refl _, rfl⟩
   case round =>
    obtain ⟨m, S, hmg, rfl, rfl, hU, hmn, e⟩ := hrel
    have e2 := e.symm
    subst e2
    have hm9 : m ≤ 1114111 := by omega
    have hSz : S.size ≤ 6 := by
     have h := congrArg ByteArray.size hU
     have := HZ.out
     rw [ByteArray.size_append] at h; omega
    have hu1 : ¬ 9223372036854775807 < 1 + S.size := by omega
    have hu2 : ¬ 9223372036854775807 < 4 + S.size := by omega
    have hu3 : ¬ 9223372036854775807 < 4 + S.size + 1 := by omega
    have HU := Lib.hid hU
    clear hU
    by_cases h16 : m < 16
    · have d1 : decide ((15 : Int) < (m : Int)) = false := by simp; omega
      have d2 : decide (15 < m) = false := by simp; omega
      have hsl := fun w' => hex_cut m h16 (m : Int) ((m : Int) + 1) rfl rfl w'
      have hw1 : IntKind.i32.wrap ((m : Int) + 1) = (m : Int) + 1 := by unfold IntKind.wrap; simp [IntKind.bits, IntKind.signed]; omega
      go_wp2_with fail
      go_ret
      refine ⟨?_, Below.refl _ _⟩
      rw [HX.out, HU.out, hexU_small h16]
      simp only [ByteArray.append_assoc]
      rfl
    · have d1 : decide ((15 : Int) < (m : Int)) = true := by simp; omega
      have d2 : decide (15 < m) = true := by simp; omega
      have he : (⟨#[48, 49, 50, 51, 52, 53, 54, 55, 56, 57, 65, 66, 67, 68, 69, 70]⟩ : ByteArray).extract (m % 16) (m % 16 + 1) = ⟨#[hexg (m % 16)]⟩ := by
       have e : ∀ k : Nat, k < 16 → (⟨#[48, 49, 50, 51, 52, 53, 54, 55, 56, 57, 65, 66, 67, 68, 69, 70]⟩ : ByteArray).extract k (k + 1) = ⟨#[hexg k]⟩ := by decide
       exact e _ (Nat.mod_lt _ (by decide))
      cases gk with
      | zero => omega
      | succ g =>
       have HE := Lib.hid he
       clear he
       go_wp2_with fail
       go_roundg g
       case measure => omega
       case rel =>
        refine ⟨m / 16, ⟨#[hexg (m % 16)]⟩ ++ S, by omega, by simp, by rw [HE.out], ?_, by omega, rfl⟩
        rw [HU.out, hexU_big h16, ByteArray.append_assoc]
end Go.Proofs.YtfkmajjgkdjncaaGreatDoor

set_option maxHeartbeats 4000000
set_option maxRecDepth 100000
namespace Go.Proofs.YtfkmajjgkdjncaaGreatDoor
open Go.RowKit
theorem catB_snoc (l : List ByteArray) (x : ByteArray) : catB (l ++ [x]) = catB l ++ x := by
 unfold catB
 apply ByteArray.ext
 simp
theorem take_snoc {α β : Type} (l : List α) (f : α → β) (k : Nat) (x : α) (h : l[k]? = some x) : (l.take (k + 1)).map f = (l.take k).map f ++ [f x] := by
 rw [List.take_add_one, h]
 simp
theorem rset_any (l : List (Int × Int)) (v : Value) (w : World) (hr : Row w v l.length (flatK .i32 l)) (hl : ∀ x ∈ l, ROK x) (ho : ∀ x ∈ l, x.1 ≤ x.2) (hn : l.length ≤ 100000) :
 Calls Tryz.prog 65 #[v] w fun e w' => e = .returned (.string (setB l)) ∧ Below w.heap.size w w' := by
 have hr0 := hr
 obtain ⟨o, c, rfl, hc, hm, hrr⟩ := hr
 have hsz : ∀ k, (catB ((l.take k).map rngB)).size ≤ 2100000 := fun k => by
  have h := ranges_le (l := l.take k) (fun x hx => hl x (List.mem_of_mem_take hx))
  have h2 : (l.take k).length ≤ l.length := by rw [List.length_take]; omega
  omega
 by_cases h1 : l.length = 1 ∧ (l.getD 0 (0, 0)).1 = (l.getD 0 (0, 0)).2
 · obtain ⟨h1, h2⟩ := h1
   obtain ⟨x, rfl⟩ := List.length_eq_one_iff.1 h1
   rcases hrr with ⟨h0, -⟩ | ⟨b, off, rfl, hlt, hcell⟩
   · simp at h0
   · obtain ⟨p0, p1⟩ := flatK_at .i32 [x] 0 (by simp)
     have z0 := hcell _ _ p0
     have z1 := hcell _ _ p1
     simp at z0 z1
     have hx := hl x (by simp)
     have c : x.1 = x.2 := h2
     have d : (x.1 == x.2) = true := by simpa using c
     have HX := Lib.hid (show setB [x] = letB x.1 from if_pos ⟨rfl, c⟩)
     have HL := Lib.hid (fun w' => rhex_any x.1 w' hx.1.1 hx.1.2)
     clear hr0 hsz hcell p0 p1 hx hl c h2 ho h1
     simp only [List.length_singleton]
     go_enter Tryz.func65, Tryz.ntmps65
     go_upto_region 1 with (fail)
     obtain ⟨ι, K, hne, hkb, hks⟩ := kept_family w
     have KB := Lib.hid hkb
     have kS := hks _ (Below.refl _ _).drew
     have j0 : ∀ i, (K i).cell? ⟨b, off, none⟩ = some (.int .i32 x.1) := fun i => cell_later (hkb i) z0
     have j1 : ∀ i, (K i).cell? ⟨b, off + 1, none⟩ = some (.int .i32 x.2) := fun i => cell_later (hkb i) z1
     clear hkb hks
     refine region_kept K (by kernel_rfl) (by kernel_rfl) kS ?_
     repeat (go_big_quiet_step (fail))
     refine wpQuiet_nil ?_
     rintro _ ⟨iw, rfl⟩
     have m0 := j0 iw
     have HBK := Lib.hid (KB.out iw)
     go_wp2_with fail
     refine (HL.out _).mono ?_
     rintro e w2 ⟨rfl, hb2⟩
     have HB2 := Lib.hid (bel_then HBK.out hb2)
     clear hb2
     go_wp2_with fail
     go_ret
     exact ⟨by rw [HX.out]; rfl, HB2.out⟩
 · have HX := Lib.hid (show setB l = (⟨#[91]⟩ ++ catB (l.map rngB)) ++ ⟨#[93]⟩ from if_neg h1)
   have HSZ := Lib.hid hsz
   obtain ⟨n, hnl⟩ : ∃ n, n = l.length := ⟨_, rfl⟩
   have HCE := Lib.hid (show ∀ (k : Nat) (x : Int × Int), l[k]? = some x → ∃ b off, o = some ⟨b, off, none⟩ ∧ w.cell? ⟨b, off + k * 2, none⟩ = some (.int .i32 x.1) ∧ w.cell? ⟨b, off + k * 2 + 1, none⟩ = some (.int .i32 x.2) from fun k x hx => by
    have hk := (List.getElem?_eq_some_iff.1 hx).1
    rcases hrr with ⟨h0, -⟩ | ⟨b, off, rfl, hlt, hcell⟩
    · omega
    · obtain ⟨p0, p1⟩ := flatK_at .i32 l k hk
      have z0 := hcell _ _ p0
      have z1 := hcell _ _ p1
      have e : l.getD k (0, 0) = x := by rw [List.getD, hx]; rfl
      rw [e] at z0 z1
      exact ⟨b, off, rfl, z0, z1⟩)
   have HLL := Lib.hid (And.intro hl ho)
   have HM := Lib.hid hnl
   rw [← hnl] at hn
   try rw [← hnl] at hm
   try rw [← hnl] at hc
   rw [← hnl]
   have hn9 : n ≤ 100000 := hn
   have HE1 := Lib.hid h1
   clear hr0 hrr hl ho h1 hsz hnl hn
   go_enter Tryz.func65, Tryz.ntmps65
   go_upto_region 1 with (fail)
   go_cut [18] (fun s18 wx => s18 = .bool false ∧ Below w.heap.size w wx)
   case first =>
    obtain ⟨ι, K, hne, hkb, hks⟩ := kept_family w
    have KB := Lib.hid hkb
    have kS := hks _ (Below.refl _ _).drew
    by_cases h1 : n = 1
    · obtain ⟨x, hx⟩ := List.length_eq_one_iff.1 (HM.out.symm.trans h1)
      have hx0 : l[0]? = some x := by rw [hx]; rfl
      obtain ⟨b, off, rfl, z0, z1⟩ := HCE.out 0 x hx0
      rw [Nat.zero_mul, Nat.add_zero] at z0 z1
      have cn : ¬ x.1 = x.2 := fun h => HE1.out ⟨HM.out.symm.trans h1, by rw [hx]; exact h⟩
      have d : (x.1 == x.2) = false := by simpa using cn
      have j0 : ∀ i, (K i).cell? ⟨b, off, none⟩ = some (.int .i32 x.1) := fun i => cell_later (hkb i) z0
      have j1 : ∀ i, (K i).cell? ⟨b, off + 1, none⟩ = some (.int .i32 x.2) := fun i => cell_later (hkb i) z1
      clear hkb hks hx hx0 z0 z1 cn
      subst h1
      refine region_kept K (by kernel_rfl) (by kernel_rfl) kS ?_
      repeat (go_big_quiet_step (fail))
      refine wpQuiet_nil ?_
      rintro _ ⟨iw, rfl⟩
      have HBK := Lib.hid (KB.out iw)
      go_wp2_with fail
      go_meet
      exact ⟨rfl, HBK.out⟩
    · have d : ((n : Int) == 1) = false := by simp; omega
      clear hkb hks
      refine region_kept K (by kernel_rfl) (by kernel_rfl) kS ?_
      repeat (go_big_quiet_step (fail))
      refine wpQuiet_nil ?_
      rintro _ ⟨iw, rfl⟩
      have HBK := Lib.hid (KB.out iw)
      go_wp2_with fail
      go_meet
      exact ⟨rfl, HBK.out⟩
   case rest =>
    obtain ⟨rfl, hbc⟩ := hcut
    have HBC := Lib.hid hbc
    clear hbc
    go_upto_region 5 with (fail)
    go_loopg [3, 4] n (fun g s3 s4 wx => ∃ k : Nat, k + g = n ∧ s4 = .int .i64 (k : Int) ∧ s3 = .string (⟨#[91]⟩ ++ catB ((l.take k).map rngB)) ∧ Below w.heap.size w wx)
    case atStart => exact ⟨0, by omega, rfl, rfl, HBC.out⟩
    case round =>
     obtain ⟨k, hkg, rfl, rfl, hbel⟩ := hrel
     have HBE := Lib.hid hbel
     obtain ⟨C, hC⟩ : ∃ C, C = catB ((l.take k).map rngB) := ⟨_, rfl⟩
     have hCs : C.size ≤ 2100000 := by rw [hC]; exact HSZ.out k
     rw [← hC]
     have HC := Lib.hid hC
     clear hC hbel
     cases gk with
     | zero =>
      obtain rfl : k = n := by omega
      have x1 : decide ((k : Int) < (k : Int)) = false := by simp
      have x2 : decide (k < k) = false := by simp
      have hu : ¬ 9223372036854775807 < 1 + C.size + 1 := by omega
      have HY := Lib.hid (show catB (l.map rngB) = C by rw [HC.out, List.take_of_length_le (by have := HM.out; omega)])
      go_wp2_with fail
      go_ret
      exact ⟨by rw [HX.out, HY.out]; rfl, HBE.out⟩
     | succ g =>
      have hk : k < n := by omega
      obtain ⟨x, hx⟩ : ∃ x, l[k]? = some x := ⟨_, List.getElem?_eq_getElem (by have := HM.out; omega)⟩
      obtain ⟨b, off, rfl, z0, z1⟩ := HCE.out k x hx
      have hxk := HLL.out.1 x (List.mem_of_getElem? hx)
      have hxo := HLL.out.2 x (List.mem_of_getElem? hx)
      have x1 : decide ((k : Int) < (n : Int)) = true := by simp; omega
      have x2 : decide (k < n) = true := by simpa using hk
      have hk1 : (0 : Int) ≤ (k : Int) := by omega
      have hk2 : (k : Int) < (n : Int) := by omega
      have HN := Lib.hid (show catB ((l.take (k + 1)).map rngB) = C ++ rngB x by rw [take_snoc l rngB k x hx, catB_snoc, ← HC.out])
      have HL1 := Lib.hid (fun w' => rhex_any x.1 w' hxk.1.1 hxk.1.2)
      have HL2 := Lib.hid (fun w' => rhex_any x.2 w' hxk.2.1 hxk.2.2)
      have s1 := letB_size hxk.1.1 hxk.1.2
      have s2 := letB_size hxk.2.1 hxk.2.2
      have he : rngB x = if x.1 = x.2 then letB x.1 else (letB x.1 ++ ⟨#[45]⟩) ++ letB x.2 := rfl
      obtain ⟨A, hA⟩ : ∃ A, A = letB x.1 := ⟨_, rfl⟩
      obtain ⟨B, hB⟩ : ∃ A, A = letB x.2 := ⟨_, rfl⟩
      rw [← hA] at HL1 he s1
      rw [← hB] at HL2 he s2
      obtain ⟨a, b2⟩ := x
      have HE := Lib.hid he
      have hu1 : ¬ 9223372036854775807 < 1 + C.size + A.size := by omega
      have hu2 : ¬ 9223372036854775807 < 1 + C.size + A.size + 1 := by omega
      have hu3 : ¬ 9223372036854775807 < 1 + C.size + A.size + 1 + B.size := by omega
      have m0 := cell_later HBE.out z0
      have z0b := z0
      have z1b := z1
      clear he hA hB hx hxk z0 z1
      have n0 := z0b
      have n1 := z1b
      clear z0b z1b
      go_wp2_with fail
      refine (HL1.out _).mono ?_
      rintro e w2 ⟨rfl, hb2⟩
      have HB2 := Lib.hid (bel_then HBE.out hb2)
      clear hb2
      go_wp2_with fail
      obtain ⟨ι, K, hne, hkb, hks⟩ := kept_family w2
      have KB := Lib.hid hkb
      have kS := hks _ (Below.refl _ _).drew
      have j0 : ∀ i, (K i).cell? ⟨b, off + k * 2, none⟩ = some (.int .i32 a) := fun i => cell_later (bel_then HB2.out (hkb i)) n0
      have j1 : ∀ i, (K i).cell? ⟨b, off + k * 2 + 1, none⟩ = some (.int .i32 b2) := fun i => cell_later (bel_then HB2.out (hkb i)) n1
      clear hkb hks n0 n1 m0
      by_cases c1 : a < b2
      · have d1 : decide (a < b2) = true := by simpa using c1
        have HR := Lib.hid (HE.out.trans (if_neg (by show ¬ a = b2; omega)))
        clear c1
        refine region_kept K (by kernel_rfl) (by kernel_rfl) kS ?_
        repeat (go_big_quiet_step (fail))
        refine wpQuiet_nil ?_
        rintro _ ⟨iw, rfl⟩
        have HBK := Lib.hid (bel_then HB2.out (KB.out iw))
        have m1 := j1 iw
        clear j0 j1
        go_wp2_with fail
        refine (HL2.out _).mono ?_
        rintro e w4 ⟨rfl, hb4⟩
        have HB4 := Lib.hid (bel_then HBK.out hb4)
        clear hb4
        go_wp2_with fail
        go_roundg g
        case measure => omega
        case rel => exact ⟨k + 1, by omega, by simp, by rw [HN.out, HR.out]; simp only [ByteArray.append_assoc], HB4.out⟩
      · have d1 : decide (a < b2) = false := by simpa using c1
        have HR := Lib.hid (HE.out.trans (if_pos (by show a = b2; have : a ≤ b2 := hxo; omega)))
        clear c1
        refine region_kept K (by kernel_rfl) (by kernel_rfl) kS ?_
        repeat (go_big_quiet_step (fail))
        refine wpQuiet_nil ?_
        rintro _ ⟨iw, rfl⟩
        have HBK := Lib.hid (bel_then HB2.out (KB.out iw))
        clear j0 j1
        go_wp2_with fail
        go_roundg g
        case measure => omega
        case rel => exact ⟨k + 1, by omega, by simp, by rw [HN.out, HR.out]; simp only [ByteArray.append_assoc], HBK.out⟩
end Go.Proofs.YtfkmajjgkdjncaaGreatDoor

set_option maxHeartbeats 8000000
set_option maxRecDepth 100000
namespace Go.Proofs.YtfkmajjgkdjncaaGreatDoor
open Go.RowKit Ru
theorem rin_any (t : ByteArray) (m : Bool) (w : World) (ht : t.size ≤ 1000000000000) : Calls Tryz.prog 66 #[.string t, .bool m] w fun e w' => e = .returned (.string (hold t m)) ∧ w' = w := by
 have hu1 : ¬ 9223372036854775807 < 1 + t.size := by omega
 have hu2 : ¬ 9223372036854775807 < 1 + t.size + 1 := by omega
 clear ht
 cases m with
 | true =>
  go_enter Tryz.func66, Tryz.ntmps66
  go_wp2_with fail
  go_ret
  exact ⟨rfl, rfl⟩
 | false =>
  go_enter Tryz.func66, Tryz.ntmps66
  go_wp2_with fail
  go_ret
  exact ⟨rfl, rfl⟩
theorem len_two {α : Type} {l : List α} (h : l.length = 2) : ∃ a b, l = [a, b] := by
 match l, h with
 | [a, b], _ => exact ⟨a, b, rfl⟩
theorem may_le : ∀ {l : List (Int × Int)}, mayB l = true → ∀ x ∈ l, x.1 ≤ x.2 := by
 intro l h x hx
 obtain ⟨i, hi, rfl⟩ := List.getElem_of_mem hx
 have := ((mayB_iff l).1 h i hi).1
 have e : l.getD i (0, 0) = l[i] := by simp [List.getD, hi]
 rw [e] at this
 unfold okR at this
 simp [scal] at this
 omega
def ReIH (N : Nat) : Prop := ∀ (e : RE) (sv lv : Value) (w : World), e.size ≤ N → e.size ≤ 1000 → e.prt = true → ReIs w e sv lv →
 Calls Tryz.prog 27 #[.agg #[.int .i64 e.kind, sv, lv]] w fun x w' => x = .returned (.string e.text) ∧ Below w.heap.size w w'
theorem re_step (N : Nat) (ih : ReIH N) : ReIH (N + 1) := by
 intro e sv lv w hs hs2 hpr hr
 have hte := RE.text_eq e
 have hsz := re_size e.size e (Nat.le_refl _) hpr
 have hset := hr.set
 obtain ⟨⟨o1, q1, rfl⟩, ⟨o2, q2, rfl⟩⟩ := hr.form
 obtain ⟨t, ht⟩ : ∃ t, t = e.text := ⟨_, rfl⟩
 rw [← ht] at hte hsz ⊢
 rcases RE.shp_cases (RE.prt_shp hpr) with k | k | ⟨k, h1, h2⟩ | ⟨k, h1⟩ | ⟨k, h1⟩ | ⟨k, h1⟩
 · rw [k] at hte ⊢
   obtain ⟨a, ha⟩ : ∃ a, a = e.set.length := ⟨_, rfl⟩
   obtain ⟨b, hb⟩ : ∃ b, b = e.parts.length := ⟨_, rfl⟩
   rw [← ha, ← hb]
   have HX := Lib.hid (show t = ⟨#[91, 93]⟩ by rw [hte]; rfl)
   clear hte hsz hset hs hs2 hpr hr ht k ha hb ih
   go_enter Tryz.func27, Tryz.ntmps27
   go_wp2_with fail
   go_ret
   exact ⟨by rw [HX.out]; rfl, by repeat (first | exact Below.refl _ _ | (refine bel_new ?_ _))⟩
 · rw [k] at hte ⊢
   obtain ⟨a, ha⟩ : ∃ a, a = e.set.length := ⟨_, rfl⟩
   obtain ⟨b, hb⟩ : ∃ b, b = e.parts.length := ⟨_, rfl⟩
   rw [← ha, ← hb]
   have HX := Lib.hid (show t = ⟨#[40, 41]⟩ by rw [hte]; rfl)
   clear hte hsz hset hs hs2 hpr hr ht k ha hb ih
   go_enter Tryz.func27, Tryz.ntmps27
   go_wp2_with fail
   go_ret
   exact ⟨by rw [HX.out]; rfl, by repeat (first | exact Below.refl _ _ | (refine bel_new ?_ _))⟩
 · have hps := fun w' (hb : Below w.heap.size w w') => rset_any e.set _ w' (hset.below hb) (may_rok h2) (may_le h2) (by omega)
   rw [k] at hte ⊢
   have HX := Lib.hid (show t = setB e.set by rw [hte]; rfl)
   obtain ⟨b, hb⟩ : ∃ b, b = e.parts.length := ⟨_, rfl⟩
   obtain ⟨a, ha⟩ : ∃ a, a = e.set.length := ⟨_, rfl⟩
   rw [← ha] at hps
   rw [← ha, ← hb]
   have HP := Lib.hid hps
   clear hte hsz hset hs hs2 hpr hr ht k ha hb ih hps h1 h2
   go_enter Tryz.func27, Tryz.ntmps27
   go_wp2_with fail
   refine (HP.out _ (bel_new (Below.refl _ _) _)).mono ?_
   rintro x w2 ⟨rfl, hb2⟩
   have HB2 := Lib.hid (bel_then (bel_new (Below.refl w.heap.size w) _) hb2)
   clear hb2
   go_wp2_with fail
   go_ret
   exact ⟨by rw [HX.out]; rfl, HB2.out⟩
 · obtain ⟨y0, y1, hl⟩ : ∃ y0 y1, e.parts = [y0, y1] := len_two h1
   have hln : e.parts.length = 2 := by rw [hl]; rfl
   have hp0 : e.parts[0]? = some y0 := by rw [hl]; rfl
   obtain ⟨b0, off0, cap0, s0, l0, hlv0, hbl0, z00, z01, z02, hpi0⟩ := hr.part hp0
   have hp1 : e.parts[1]? = some y1 := by rw [hl]; rfl
   obtain ⟨b1, off1, cap1, s1, l1, hlv1, hbl1, z10, z11, z12, hpi1⟩ := hr.part hp1
   rw [hlv0] at hlv1
   cases hlv1
   cases hlv0
   simp only [Nat.zero_mul, Nat.one_mul, Nat.add_zero, Nat.add_assoc, Nat.reduceAdd] at z00 z01 z02 z10 z11 z12
   have hc0 := fun w' hb => ih y0 s0 l0 w' (by have := RE.size_part hp0; omega) (by have := RE.size_part hp0; omega) (RE.prt_part hpr hp0) (hpi0.moved (show Below w.heap.size w w' from hb))
   have hz0 := re_size y0.size y0 (Nat.le_refl _) (RE.prt_part hpr hp0)
   have hq0 := RE.size_part hp0
   obtain ⟨⟨so0, sq0, rfl⟩, ⟨lo0, lq0, rfl⟩⟩ := hpi0.form
   obtain ⟨t0, ht0⟩ : ∃ z, z = y0.text := ⟨_, rfl⟩
   obtain ⟨k0, hk0⟩ : ∃ z, z = y0.kind := ⟨_, rfl⟩
   obtain ⟨n0, hn0⟩ : ∃ z, z = y0.set.length := ⟨_, rfl⟩
   obtain ⟨r0, hr0⟩ : ∃ z, z = y0.parts.length := ⟨_, rfl⟩
   have hc1 := fun w' hb => ih y1 s1 l1 w' (by have := RE.size_part hp1; omega) (by have := RE.size_part hp1; omega) (RE.prt_part hpr hp1) (hpi1.moved (show Below w.heap.size w w' from hb))
   have hz1 := re_size y1.size y1 (Nat.le_refl _) (RE.prt_part hpr hp1)
   have hq1 := RE.size_part hp1
   obtain ⟨⟨so1, sq1, rfl⟩, ⟨lo1, lq1, rfl⟩⟩ := hpi1.form
   obtain ⟨t1, ht1⟩ : ∃ z, z = y1.text := ⟨_, rfl⟩
   obtain ⟨k1, hk1⟩ : ∃ z, z = y1.kind := ⟨_, rfl⟩
   obtain ⟨n1, hn1⟩ : ∃ z, z = y1.set.length := ⟨_, rfl⟩
   obtain ⟨r1, hr1⟩ : ∃ z, z = y1.parts.length := ⟨_, rfl⟩
   have hteq : t = hold y0.text ([4].contains y0.kind) ++ hold y1.text ([4, 3].contains y1.kind) := by rw [hte, k, hl]; rfl
   rw [hln]
   rw [k]
   obtain ⟨a, ha⟩ : ∃ a, a = e.set.length := ⟨_, rfl⟩
   rw [← ha]
   rw [← ht0] at hteq hc0 hz0
   rw [← hk0] at hteq hc0 z00
   rw [← hn0] at hc0 z01
   rw [← hr0] at hc0 z02
   rw [← ht1] at hteq hc1 hz1
   rw [← hk1] at hteq hc1 z10
   rw [← hn1] at hc1 z11
   rw [← hr1] at hc1 z12
   rw [hln] at *
   obtain ⟨W, hW⟩ : ∃ W, W = w.alloc (.cells #[.int .i64 3, .slice o1 a q1, .slice (some ⟨b0, off0, none⟩) 2 q2] 35) := ⟨_, rfl⟩
   have HBW := Lib.hid (show Below w.heap.size w W by rw [hW]; exact (Below.refl _ _).alloc (Nat.le_refl _) _)
   have c2 : W.cell? ⟨w.heap.size, 2, none⟩ = some (.slice (some ⟨b0, off0, none⟩) 2 q2) := by rw [hW]; exact Joins.cell_alloc_mark_at _ #[.int .i64 3, .slice o1 a q1, .slice (some ⟨b0, off0, none⟩) 2 q2] 35 (0, 0) _ 2 (by simp)
   obtain ⟨ι, K, hne, hkb, hks⟩ := kept_family W
   have KB := Lib.hid hkb
   have kS := hks _ (Below.refl _ _).drew
   have j2 : ∀ i, (K i).cell? ⟨w.heap.size, 2, none⟩ = some (.slice (some ⟨b0, off0, none⟩) 2 q2) := fun i => cell_later (hkb i) c2
   have x00 : ∀ i, (K i).cell? ⟨b0, off0, none⟩ = some (.int .i64 k0) := fun i => cell_later (hkb i) (cell_later HBW.out z00)
   have x01 : ∀ i, (K i).cell? ⟨b0, off0 + 1, none⟩ = some (.slice so0 n0 sq0) := fun i => cell_later (hkb i) (cell_later HBW.out z01)
   have x02 : ∀ i, (K i).cell? ⟨b0, off0 + 2, none⟩ = some (.slice lo0 r0 lq0) := fun i => cell_later (hkb i) (cell_later HBW.out z02)
   have HC0 := Lib.hid (fun i => calls_kept hkb hks (i := i) (hc0 (K i) (bel_then HBW.out (hkb i))))
   have x10 : ∀ i, (K i).cell? ⟨b0, off0 + 3, none⟩ = some (.int .i64 k1) := fun i => cell_later (hkb i) (cell_later HBW.out z10)
   have x11 : ∀ i, (K i).cell? ⟨b0, off0 + 4, none⟩ = some (.slice so1 n1 sq1) := fun i => cell_later (hkb i) (cell_later HBW.out z11)
   have x12 : ∀ i, (K i).cell? ⟨b0, off0 + 5, none⟩ = some (.slice lo1 r1 lq1) := fun i => cell_later (hkb i) (cell_later HBW.out z12)
   have HC1 := Lib.hid (fun i => calls_kept hkb hks (i := i) (hc1 (K i) (bel_then HBW.out (hkb i))))
   obtain ⟨m0, hm0⟩ : ∃ z, z = (k0 == 4) := ⟨_, rfl⟩
   have gm0 := hm0.symm
   obtain ⟨m1, hm1⟩ : ∃ z, z = (k1 == 4) := ⟨_, rfl⟩
   have gm1 := hm1.symm
   obtain ⟨m2, hm2⟩ : ∃ z, z = (k1 == 3) := ⟨_, rfl⟩
   have gm2 := hm2.symm
   cases m1 with
   | true =>
    have HX := Lib.hid (show t = hold t0 m0 ++ hold t1 true by rw [hteq]; simp only [List.contains_cons, List.contains_nil, gm0, gm1, Bool.or_false, Bool.or_true, Bool.true_or, Bool.false_or])
    have HI0 := Lib.hid (fun i => calls_kept hkb hks (i := i) ((rin_any t0 m0 (K i) (by omega)).mono (fun e w' h => ⟨h.1, by rw [h.2]; exact Below.refl _ _⟩)))
    have HI1 := Lib.hid (fun i => calls_kept hkb hks (i := i) ((rin_any t1 true (K i) (by omega)).mono (fun e w' h => ⟨h.1, by rw [h.2]; exact Below.refl _ _⟩)))
    have hu0 : ¬ 9223372036854775807 < (hold t0 m0).size + (hold t1 true).size := by have := hold_size t0 m0; have := hold_size t1 true; omega
    clear hte hsz hset hs hs2 hpr hr ht k ha hl hln ih hteq hkb hks c2 h1 hp0 hbl0 hpi0 hc0 hz0 hq0 ht0 hk0 hn0 hr0 z00 z01 z02 hp1 hbl1 hpi1 hc1 hz1 hq1 ht1 hk1 hn1 hr1 z10 z11 z12 hm0 hm1 hm2
    go_enter Tryz.func27, Tryz.ntmps27
    go_upto_region 9 with (fail)
    rw [← hW]
    clear hW
    refine region_kept K (by kernel_rfl) (by kernel_rfl) kS ?_
    repeat (go_big_quiet_step (with_reducible first | exact HC0.out _ | exact HC1.out _ | exact HI0.out _ | exact HI1.out _))
    refine wpQuiet_nil ?_
    rintro _ ⟨iw, rfl⟩
    have HB6 := Lib.hid (bel_then HBW.out (KB.out iw))
    go_wp2_with fail
    go_ret
    exact ⟨by rw [HX.out]; rfl, HB6.out⟩
   | false =>
    have HX := Lib.hid (show t = hold t0 m0 ++ hold t1 m2 by rw [hteq]; simp only [List.contains_cons, List.contains_nil, gm0, gm1, gm2, Bool.or_false, Bool.or_true, Bool.true_or, Bool.false_or])
    have HI0 := Lib.hid (fun i => calls_kept hkb hks (i := i) ((rin_any t0 m0 (K i) (by omega)).mono (fun e w' h => ⟨h.1, by rw [h.2]; exact Below.refl _ _⟩)))
    have HI1 := Lib.hid (fun i => calls_kept hkb hks (i := i) ((rin_any t1 m2 (K i) (by omega)).mono (fun e w' h => ⟨h.1, by rw [h.2]; exact Below.refl _ _⟩)))
    have hu0 : ¬ 9223372036854775807 < (hold t0 m0).size + (hold t1 m2).size := by have := hold_size t0 m0; have := hold_size t1 m2; omega
    clear hte hsz hset hs hs2 hpr hr ht k ha hl hln ih hteq hkb hks c2 h1 hp0 hbl0 hpi0 hc0 hz0 hq0 ht0 hk0 hn0 hr0 z00 z01 z02 hp1 hbl1 hpi1 hc1 hz1 hq1 ht1 hk1 hn1 hr1 z10 z11 z12 hm0 hm1 hm2
    go_enter Tryz.func27, Tryz.ntmps27
    go_upto_region 9 with (fail)
    rw [← hW]
    clear hW
    refine region_kept K (by kernel_rfl) (by kernel_rfl) kS ?_
    repeat (go_big_quiet_step (with_reducible first | exact HC0.out _ | exact HC1.out _ | exact HI0.out _ | exact HI1.out _))
    refine wpQuiet_nil ?_
    rintro _ ⟨iw, rfl⟩
    have HB6 := Lib.hid (bel_then HBW.out (KB.out iw))
    go_wp2_with fail
    go_ret
    exact ⟨by rw [HX.out]; rfl, HB6.out⟩
 · obtain ⟨y0, y1, hl⟩ : ∃ y0 y1, e.parts = [y0, y1] := len_two h1
   have hln : e.parts.length = 2 := by rw [hl]; rfl
   have hp0 : e.parts[0]? = some y0 := by rw [hl]; rfl
   obtain ⟨b0, off0, cap0, s0, l0, hlv0, hbl0, z00, z01, z02, hpi0⟩ := hr.part hp0
   have hp1 : e.parts[1]? = some y1 := by rw [hl]; rfl
   obtain ⟨b1, off1, cap1, s1, l1, hlv1, hbl1, z10, z11, z12, hpi1⟩ := hr.part hp1
   rw [hlv0] at hlv1
   cases hlv1
   cases hlv0
   simp only [Nat.zero_mul, Nat.one_mul, Nat.add_zero, Nat.add_assoc, Nat.reduceAdd] at z00 z01 z02 z10 z11 z12
   have hc0 := fun w' hb => ih y0 s0 l0 w' (by have := RE.size_part hp0; omega) (by have := RE.size_part hp0; omega) (RE.prt_part hpr hp0) (hpi0.moved (show Below w.heap.size w w' from hb))
   have hz0 := re_size y0.size y0 (Nat.le_refl _) (RE.prt_part hpr hp0)
   have hq0 := RE.size_part hp0
   obtain ⟨⟨so0, sq0, rfl⟩, ⟨lo0, lq0, rfl⟩⟩ := hpi0.form
   obtain ⟨t0, ht0⟩ : ∃ z, z = y0.text := ⟨_, rfl⟩
   obtain ⟨k0, hk0⟩ : ∃ z, z = y0.kind := ⟨_, rfl⟩
   obtain ⟨n0, hn0⟩ : ∃ z, z = y0.set.length := ⟨_, rfl⟩
   obtain ⟨r0, hr0⟩ : ∃ z, z = y0.parts.length := ⟨_, rfl⟩
   have hc1 := fun w' hb => ih y1 s1 l1 w' (by have := RE.size_part hp1; omega) (by have := RE.size_part hp1; omega) (RE.prt_part hpr hp1) (hpi1.moved (show Below w.heap.size w w' from hb))
   have hz1 := re_size y1.size y1 (Nat.le_refl _) (RE.prt_part hpr hp1)
   have hq1 := RE.size_part hp1
   obtain ⟨⟨so1, sq1, rfl⟩, ⟨lo1, lq1, rfl⟩⟩ := hpi1.form
   obtain ⟨t1, ht1⟩ : ∃ z, z = y1.text := ⟨_, rfl⟩
   obtain ⟨k1, hk1⟩ : ∃ z, z = y1.kind := ⟨_, rfl⟩
   obtain ⟨n1, hn1⟩ : ∃ z, z = y1.set.length := ⟨_, rfl⟩
   obtain ⟨r1, hr1⟩ : ∃ z, z = y1.parts.length := ⟨_, rfl⟩
   have hteq : t = (hold y0.text (([] : List Int).contains y0.kind) ++ ⟨#[124]⟩) ++ hold y1.text ([4].contains y1.kind) := by rw [hte, k, hl]; rfl
   rw [hln]
   rw [k]
   obtain ⟨a, ha⟩ : ∃ a, a = e.set.length := ⟨_, rfl⟩
   rw [← ha]
   rw [← ht0] at hteq hc0 hz0
   rw [← hk0] at hteq hc0 z00
   rw [← hn0] at hc0 z01
   rw [← hr0] at hc0 z02
   rw [← ht1] at hteq hc1 hz1
   rw [← hk1] at hteq hc1 z10
   rw [← hn1] at hc1 z11
   rw [← hr1] at hc1 z12
   rw [hln] at *
   obtain ⟨W, hW⟩ : ∃ W, W = w.alloc (.cells #[.int .i64 4, .slice o1 a q1, .slice (some ⟨b0, off0, none⟩) 2 q2] 35) := ⟨_, rfl⟩
   have HBW := Lib.hid (show Below w.heap.size w W by rw [hW]; exact (Below.refl _ _).alloc (Nat.le_refl _) _)
   have c2 : W.cell? ⟨w.heap.size, 2, none⟩ = some (.slice (some ⟨b0, off0, none⟩) 2 q2) := by rw [hW]; exact Joins.cell_alloc_mark_at _ #[.int .i64 4, .slice o1 a q1, .slice (some ⟨b0, off0, none⟩) 2 q2] 35 (0, 0) _ 2 (by simp)
   obtain ⟨ι, K, hne, hkb, hks⟩ := kept_family W
   have KB := Lib.hid hkb
   have kS := hks _ (Below.refl _ _).drew
   have j2 : ∀ i, (K i).cell? ⟨w.heap.size, 2, none⟩ = some (.slice (some ⟨b0, off0, none⟩) 2 q2) := fun i => cell_later (hkb i) c2
   have x00 : ∀ i, (K i).cell? ⟨b0, off0, none⟩ = some (.int .i64 k0) := fun i => cell_later (hkb i) (cell_later HBW.out z00)
   have x01 : ∀ i, (K i).cell? ⟨b0, off0 + 1, none⟩ = some (.slice so0 n0 sq0) := fun i => cell_later (hkb i) (cell_later HBW.out z01)
   have x02 : ∀ i, (K i).cell? ⟨b0, off0 + 2, none⟩ = some (.slice lo0 r0 lq0) := fun i => cell_later (hkb i) (cell_later HBW.out z02)
   have HC0 := Lib.hid (fun i => calls_kept hkb hks (i := i) (hc0 (K i) (bel_then HBW.out (hkb i))))
   have x10 : ∀ i, (K i).cell? ⟨b0, off0 + 3, none⟩ = some (.int .i64 k1) := fun i => cell_later (hkb i) (cell_later HBW.out z10)
   have x11 : ∀ i, (K i).cell? ⟨b0, off0 + 4, none⟩ = some (.slice so1 n1 sq1) := fun i => cell_later (hkb i) (cell_later HBW.out z11)
   have x12 : ∀ i, (K i).cell? ⟨b0, off0 + 5, none⟩ = some (.slice lo1 r1 lq1) := fun i => cell_later (hkb i) (cell_later HBW.out z12)
   have HC1 := Lib.hid (fun i => calls_kept hkb hks (i := i) (hc1 (K i) (bel_then HBW.out (hkb i))))
   obtain ⟨m1, hm1⟩ : ∃ z, z = (k1 == 4) := ⟨_, rfl⟩
   have gm1 := hm1.symm
   · have HX := Lib.hid (show t = (t0 ++ ⟨#[124]⟩) ++ hold t1 m1 by rw [hteq]; simp only [List.contains_cons, List.contains_nil, gm1, Bool.or_false]; rfl)
     have HI1 := Lib.hid (fun i => calls_kept hkb hks (i := i) ((rin_any t1 m1 (K i) (by omega)).mono (fun e w' h => ⟨h.1, by rw [h.2]; exact Below.refl _ _⟩)))
     have hu0 : ¬ 9223372036854775807 < t0.size + 1 + (hold t1 m1).size := by have := hold_size t1 m1; omega
     have hu1 : ¬ 9223372036854775807 < t0.size + 1 := by omega
     clear hte hsz hset hs hs2 hpr hr ht k ha hl hln ih hteq hkb hks c2 h1 hp0 hbl0 hpi0 hc0 hz0 hq0 ht0 hk0 hn0 hr0 z00 z01 z02 hp1 hbl1 hpi1 hc1 hz1 hq1 ht1 hk1 hn1 hr1 z10 z11 z12 hm1
     go_enter Tryz.func27, Tryz.ntmps27
     go_upto_region 11 with (fail)
     rw [← hW]
     clear hW
     refine region_kept K (by kernel_rfl) (by kernel_rfl) kS ?_
     repeat (go_big_quiet_step (with_reducible first | exact HC0.out _ | exact HC1.out _ | exact HI1.out _))
     refine wpQuiet_nil ?_
     rintro _ ⟨iw, rfl⟩
     have HB6 := Lib.hid (bel_then HBW.out (KB.out iw))
     go_wp2_with fail
     go_ret
     exact ⟨by rw [HX.out]; rfl, HB6.out⟩
 · obtain ⟨y0, hl⟩ : ∃ y0, e.parts = [y0] := List.length_eq_one_iff.1 h1
   have hln : e.parts.length = 1 := by rw [hl]; rfl
   have hp0 : e.parts[0]? = some y0 := by rw [hl]; rfl
   obtain ⟨b0, off0, cap0, s0, l0, hlv0, hbl0, z00, z01, z02, hpi0⟩ := hr.part hp0
   cases hlv0
   simp only [Nat.zero_mul, Nat.one_mul, Nat.add_zero, Nat.add_assoc, Nat.reduceAdd] at z00 z01 z02
   have hc0 := fun w' hb => ih y0 s0 l0 w' (by have := RE.size_part hp0; omega) (by have := RE.size_part hp0; omega) (RE.prt_part hpr hp0) (hpi0.moved (show Below w.heap.size w w' from hb))
   have hz0 := re_size y0.size y0 (Nat.le_refl _) (RE.prt_part hpr hp0)
   have hq0 := RE.size_part hp0
   obtain ⟨⟨so0, sq0, rfl⟩, ⟨lo0, lq0, rfl⟩⟩ := hpi0.form
   obtain ⟨t0, ht0⟩ : ∃ z, z = y0.text := ⟨_, rfl⟩
   obtain ⟨k0, hk0⟩ : ∃ z, z = y0.kind := ⟨_, rfl⟩
   obtain ⟨n0, hn0⟩ : ∃ z, z = y0.set.length := ⟨_, rfl⟩
   obtain ⟨r0, hr0⟩ : ∃ z, z = y0.parts.length := ⟨_, rfl⟩
   have hteq : t = hold y0.text ([3, 4].contains y0.kind) ++ ⟨#[42]⟩ := by rw [hte, k, hl]; rfl
   rw [hln]
   rw [k]
   obtain ⟨a, ha⟩ : ∃ a, a = e.set.length := ⟨_, rfl⟩
   rw [← ha]
   rw [← ht0] at hteq hc0 hz0
   rw [← hk0] at hteq hc0 z00
   rw [← hn0] at hc0 z01
   rw [← hr0] at hc0 z02
   rw [hln] at *
   obtain ⟨W, hW⟩ : ∃ W, W = w.alloc (.cells #[.int .i64 5, .slice o1 a q1, .slice (some ⟨b0, off0, none⟩) 1 q2] 35) := ⟨_, rfl⟩
   have HBW := Lib.hid (show Below w.heap.size w W by rw [hW]; exact (Below.refl _ _).alloc (Nat.le_refl _) _)
   have c2 : W.cell? ⟨w.heap.size, 2, none⟩ = some (.slice (some ⟨b0, off0, none⟩) 1 q2) := by rw [hW]; exact Joins.cell_alloc_mark_at _ #[.int .i64 5, .slice o1 a q1, .slice (some ⟨b0, off0, none⟩) 1 q2] 35 (0, 0) _ 2 (by simp)
   obtain ⟨ι, K, hne, hkb, hks⟩ := kept_family W
   have KB := Lib.hid hkb
   have kS := hks _ (Below.refl _ _).drew
   have j2 : ∀ i, (K i).cell? ⟨w.heap.size, 2, none⟩ = some (.slice (some ⟨b0, off0, none⟩) 1 q2) := fun i => cell_later (hkb i) c2
   have x00 : ∀ i, (K i).cell? ⟨b0, off0, none⟩ = some (.int .i64 k0) := fun i => cell_later (hkb i) (cell_later HBW.out z00)
   have x01 : ∀ i, (K i).cell? ⟨b0, off0 + 1, none⟩ = some (.slice so0 n0 sq0) := fun i => cell_later (hkb i) (cell_later HBW.out z01)
   have x02 : ∀ i, (K i).cell? ⟨b0, off0 + 2, none⟩ = some (.slice lo0 r0 lq0) := fun i => cell_later (hkb i) (cell_later HBW.out z02)
   have HC0 := Lib.hid (fun i => calls_kept hkb hks (i := i) (hc0 (K i) (bel_then HBW.out (hkb i))))
   obtain ⟨m0, hm0⟩ : ∃ z, z = (k0 == 3) := ⟨_, rfl⟩
   have gm0 := hm0.symm
   obtain ⟨m1, hm1⟩ : ∃ z, z = (k0 == 4) := ⟨_, rfl⟩
   have gm1 := hm1.symm
   cases m0 with
   | true =>
    have HX := Lib.hid (show t = hold t0 true ++ ⟨#[42]⟩ by rw [hteq]; simp only [List.contains_cons, List.contains_nil, gm0, Bool.or_false, Bool.or_true, Bool.true_or, Bool.false_or])
    have HI0 := Lib.hid (fun i => calls_kept hkb hks (i := i) ((rin_any t0 true (K i) (by omega)).mono (fun e w' h => ⟨h.1, by rw [h.2]; exact Below.refl _ _⟩)))
    have hu0 : ¬ 9223372036854775807 < (hold t0 true).size + 1 := by have := hold_size t0 true; omega
    clear hte hsz hset hs hs2 hpr hr ht k ha hl hln ih hteq hkb hks c2 h1 hp0 hbl0 hpi0 hc0 hz0 hq0 ht0 hk0 hn0 hr0 z00 z01 z02 hm0 hm1
    go_enter Tryz.func27, Tryz.ntmps27
    go_upto_region 12 with (fail)
    rw [← hW]
    clear hW
    refine region_kept K (by kernel_rfl) (by kernel_rfl) kS ?_
    repeat (go_big_quiet_step (with_reducible first | exact HC0.out _ | exact HI0.out _))
    refine wpQuiet_nil ?_
    rintro _ ⟨iw, rfl⟩
    have HB6 := Lib.hid (bel_then HBW.out (KB.out iw))
    go_wp2_with fail
    go_ret
    exact ⟨by rw [HX.out]; rfl, HB6.out⟩
   | false =>
    have HX := Lib.hid (show t = hold t0 m1 ++ ⟨#[42]⟩ by rw [hteq]; simp only [List.contains_cons, List.contains_nil, gm0, gm1, Bool.or_false, Bool.or_true, Bool.true_or, Bool.false_or])
    have HI0 := Lib.hid (fun i => calls_kept hkb hks (i := i) ((rin_any t0 m1 (K i) (by omega)).mono (fun e w' h => ⟨h.1, by rw [h.2]; exact Below.refl _ _⟩)))
    have hu0 : ¬ 9223372036854775807 < (hold t0 m1).size + 1 := by have := hold_size t0 m1; omega
    clear hte hsz hset hs hs2 hpr hr ht k ha hl hln ih hteq hkb hks c2 h1 hp0 hbl0 hpi0 hc0 hz0 hq0 ht0 hk0 hn0 hr0 z00 z01 z02 hm0 hm1
    go_enter Tryz.func27, Tryz.ntmps27
    go_upto_region 12 with (fail)
    rw [← hW]
    clear hW
    refine region_kept K (by kernel_rfl) (by kernel_rfl) kS ?_
    repeat (go_big_quiet_step (with_reducible first | exact HC0.out _ | exact HI0.out _))
    refine wpQuiet_nil ?_
    rintro _ ⟨iw, rfl⟩
    have HB6 := Lib.hid (bel_then HBW.out (KB.out iw))
    go_wp2_with fail
    go_ret
    exact ⟨by rw [HX.out]; rfl, HB6.out⟩
theorem re_all : ∀ N, ReIH N
 | 0 => by intro e sv lv w hs; have := RE.size_pos e; omega
 | N + 1 => re_step N (re_all N)
theorem rPrintRe_any (e : RE) (sv lv : Value) (w : World) (h9 : e.size ≤ 1000) (h : ReIs w e sv lv) (hf : e.Fit) :
 Calls Tryz.prog 13 #[.agg #[.int .i64 e.kind, sv, lv]] w fun x w' => x = .returned (.string (reP e)) ∧ Below w.heap.size w w' := by
 have hm := fun w' (hb : Below w.heap.size w w') => rMay_any w e sv lv w' h9 hf h hb
 have hx := fun (hm : e.may = true) w' (hb : Below w.heap.size w w') => re_all e.size e sv lv w' (Nat.le_refl _) h9 (may_prt hm).2 (h.moved hb)
 have hp : reP e = if e.may = true then e.text else ⟨#[]⟩ := rfl
 obtain ⟨⟨o1, q1, rfl⟩, ⟨o2, q2, rfl⟩⟩ := h.form
 obtain ⟨m, hmm⟩ : ∃ m, m = e.may := ⟨_, rfl⟩
 rw [← hmm] at hm hx hp
 obtain ⟨k, hk⟩ : ∃ k, k = e.kind := ⟨_, rfl⟩
 obtain ⟨a, ha⟩ : ∃ a, a = e.set.length := ⟨_, rfl⟩
 obtain ⟨b, hb⟩ : ∃ b, b = e.parts.length := ⟨_, rfl⟩
 rw [← hk, ← ha, ← hb] at hm hx ⊢
 have HM := Lib.hid hm
 have HX := Lib.hid hx
 have HP := Lib.hid hp
 clear hm hx hp hmm hk ha hb h hf h9
 cases m with
 | false =>
  go_enter Tryz.func13, Tryz.ntmps13
  go_wp2_with fail
  refine (HM.out _ (bel_new (Below.refl _ _) _)).mono ?_
  rintro x w2 ⟨rfl, hb2⟩
  have HB2 := Lib.hid (bel_then (bel_new (Below.refl w.heap.size w) _) hb2)
  clear hb2
  go_wp2_with fail
  go_ret
  exact ⟨by rw [HP.out]; rfl, HB2.out⟩
 | true =>
  go_enter Tryz.func13, Tryz.ntmps13
  go_wp2_with fail
  refine (HM.out _ (bel_new (Below.refl _ _) _)).mono ?_
  rintro x w2 ⟨rfl, hb2⟩
  have HB2 := Lib.hid (bel_then (bel_new (Below.refl w.heap.size w) _) hb2)
  obtain ⟨c0, c1, c2⟩ := cell3_of (box_kept hb2)
  clear hb2
  go_wp2_with fail
  refine (HX.out trivial _ HB2.out).mono ?_
  rintro x w3 ⟨rfl, hb3⟩
  have HB3 := Lib.hid (bel_then HB2.out hb3)
  clear hb3
  go_wp2_with fail
  go_ret
  exact ⟨by rw [HP.out]; rfl, HB3.out⟩
end Go.Proofs.YtfkmajjgkdjncaaGreatDoor

namespace Go.Proofs.YtfkmajjgkdjncaaGreatDoor
open Go.RowKit De Wd Ru
namespace Pm
theorem may_back {e : RE} (h : e.may = true) : e.prt = true ∧ e.dep ≤ 20 ∧ e.size ≤ 60 := by
 have := ((RE.vis_both e.size e (Nat.le_refl _) 0 1).1).1 h
 exact ⟨this.2.2, by omega, by omega⟩
end Pm
end Go.Proofs.YtfkmajjgkdjncaaGreatDoor

namespace Go.Proofs.YtfkmajjgkdjncaaGreatDoor
open Go.RowKit De Wd Ru
namespace Px
def brkL (k : Nat) : List Int := List.replicate k 40 ++ 97 :: List.replicate k 41
theorem brk_len (k : Nat) : (brkL k).length = 2 * k + 1 := by simp [brkL]; omega
theorem brk_low (k : Nat) : ∀ c ∈ brkL k, c < 128 := by
 intro c hc
 simp only [brkL, List.mem_append, List.mem_cons, List.mem_replicate] at hc
 rcases hc with ⟨_, rfl⟩ | rfl | ⟨_, rfl⟩ <;> decide
theorem brk_o {k i : Nat} (h : i < k) : pk (asc 0 (brkL k)) i = 40 := by
 rw [pk_asc, brkL, List.getElem?_append_left (by simpa using h), List.getElem?_replicate, if_pos h]; rfl
theorem brk_a (k : Nat) : pk (asc 0 (brkL k)) k = 97 := by
 rw [pk_asc, brkL, List.getElem?_append_right (by simp)]; simp
theorem brk_c {k j : Nat} (h : j < k) : pk (asc 0 (brkL k)) (k + 1 + j) = 41 := by
 rw [pk_asc, brkL, List.getElem?_append_right (by simp; omega), List.length_replicate, show k + 1 + j - k = j + 1 by omega, List.getElem?_cons_succ, List.getElem?_replicate, if_pos h]; rfl
theorem brk_e {k j : Nat} (h : ¬ j < k) : pk (asc 0 (brkL k)) (k + 1 + j) = -1 := pk_end (by rw [asc_len, brk_len]; omega)
theorem brk_cc (k j : Nat) : pk (asc 0 (brkL k)) (k + 1 + j) = 41 ∨ pk (asc 0 (brkL k)) (k + 1 + j) = -1 := by
 by_cases h : j < k
 · exact .inl (brk_c h)
 · exact .inr (brk_e h)
def a1 : RE := .mk 2 [(97, 97)] []
theorem brk_ok {n : Nat} {cl : Nat → Nat → Cr} {k : Nat} (hk : k ≤ 40) : ∀ m, m ≤ k → Pm.Alts (asc 0 (brkL k)) n cl (k - m) (k - m) a1 (k + 1 + m) := by
 intro m
 induction m with
 | zero =>
  intro _
  have e := brk_cc k 0
  have ea : Pm.atm (pk (asc 0 (brkL k)) (k + 1 + 0)) = false := by rcases e with e | e <;> rw [e] <;> decide
  refine .mk (.some (by rw [Nat.sub_zero, brk_a]; decide) (.mk (.one (r := 97) (by rw [Nat.sub_zero, brk_a]) (by decide)) (.stop (by rw [Nat.sub_zero, show k + 1 = k + 1 + 0 from rfl]; rcases e with e | e <;> rw [e] <;> decide))) (.stop ea)) (.stop (by rw [Nat.sub_zero, show k + 1 = k + 1 + 0 from rfl]; rcases e with e | e <;> rw [e] <;> decide))
 | succ m ih =>
  intro hm
  have h := ih (by omega)
  have e := brk_cc k (m + 1)
  have ea : Pm.atm (pk (asc 0 (brkL k)) (k + 1 + (m + 1))) = false := by rcases e with e | e <;> rw [e] <;> decide
  have ho : pk (asc 0 (brkL k)) (k - (m + 1)) = 40 := brk_o (by omega)
  rw [show k - m = k - (m + 1) + 1 by omega] at h
  have hp : Pm.Atom (asc 0 (brkL k)) n cl (k - (m + 1)) (k - (m + 1)) a1 (k + 1 + (m + 1)) := .par ho (by omega) h (brk_c (by omega))
  exact .mk (.some (by rw [ho]; decide) (.mk hp (.stop (by rcases e with e | e <;> rw [e] <;> decide))) (.stop ea)) (.stop (by rcases e with e | e <;> rw [e] <;> decide))
theorem brk_bad {p : Nat} {s : ByteArray} {k : Nat} (hS : Sc (asc 0 (brkL k))) (hk : 41 ≤ k) (hn : plc (asc 0 (brkL k)) s.size 40 = 40) : ∀ m, m ≤ 40 → ∀ v w, XI w p s (asc 0 (brkL k)) (40 - m) (40 - m) v →
 Calls Tryz.prog 30 #[.pointer (some ⟨p, 0, none⟩)] w fun x w' => x = pflt 7 (40 : Nat) ∧ Ch w w' p := by
 intro m
 induction m with
 | zero =>
  intro _
  have ho : pk (asc 0 (brkL k)) (40 - 0) = 40 := brk_o (by omega)
  refine alts_par hS ho (fun v w hx => ?_)
  rw [show 40 - 0 = 40 from rfl, hn] at *
  exact paParens_deep p _ 40 40 s _ v w hx rfl
 | succ m ih =>
  intro hm
  have h := ih (by omega)
  have ho : pk (asc 0 (brkL k)) (40 - (m + 1)) = 40 := brk_o (by omega)
  refine alts_par hS ho (fun v w hx => ?_)
  refine paParens_in p (40 - (m + 1) + 1) (40 - (m + 1)) _ 40 7 s _ v w hx (by omega) (fun w hx => ?_)
  rw [show 40 - (m + 1) + 1 = 40 - m by omega] at hx
  exact h v w hx
theorem re_brk (s : ByteArray) (k : Nat) (hs : sb s = brkL k) :
 (k ≤ 40 → Pm.Alts (all 0 (sb s)) s.size (clS s) 0 0 a1 (2 * k + 1)) ∧ (41 ≤ k → Sc (all 0 (sb s)) → ∀ p v w, XI w p s (all 0 (sb s)) 0 0 v →
  Calls Tryz.prog 30 #[.pointer (some ⟨p, 0, none⟩)] w fun x w' => x = pflt 7 (40 : Nat) ∧ Ch w w' p) ∧ (all 0 (sb s)).length = 2 * k + 1 := by
 have hz : s.size = 2 * k + 1 := by rw [← sb_len, hs, brk_len]
 have hasc : all 0 (sb s) = asc 0 (brkL k) := by rw [hs]; exact all_asc _ _ (brk_low k)
 rw [hasc]
 refine ⟨fun h => ?_, fun h hS p => ?_, by rw [asc_len, brk_len]⟩
 · have h9 := brk_ok (n := s.size) (cl := clS s) h k (Nat.le_refl _)
   rw [Nat.sub_self, show k + 1 + k = 2 * k + 1 by omega] at h9
   exact h9
 · exact brk_bad (p := p) (s := s) hS h (by
    unfold Wd.plc
    rw [asc_get]
    rw [List.getElem?_eq_getElem (by rw [brk_len]; omega)]
    rfl) 40 (Nat.le_refl _)
end Px
end Go.Proofs.YtfkmajjgkdjncaaGreatDoor

set_option maxHeartbeats 2000000
set_option maxRecDepth 100000
namespace Go.Proofs.YtfkmajjgkdjncaaGreatDoor
open Go.RowKit
theorem one6_any (r : Int) (w : World) : Calls Tryz.prog 16 #[.int .i32 r] w fun x w' => ∃ sv lv, x = .returned (.agg #[.int .i64 2, sv, lv]) ∧ ReIs w' (.mk 2 [(r, r)] []) sv lv ∧ Below w.heap.size w w' := by
 go_enter Tryz.func16, Tryz.ntmps16
 go_wp2_with fail
 obtain ⟨W1, hW1⟩ : ∃ W1, W1 = w.alloc (.cells #[.int .i64 2, .slice (some ⟨w.heap.size + 1, 0, none⟩) 1 1, .slice none 0 0] 35) := ⟨_, rfl⟩
 have hs1 : W1.heap.size = w.heap.size + 1 := by rw [hW1]; simp
 have hr1 : W1.heap[w.heap.size]? = some (.cells #[.int .i64 2, .slice (some ⟨w.heap.size + 1, 0, none⟩) 1 1, .slice none 0 0] 35 (0, 0)) := by rw [hW1]; exact heap_alloc_new w _
 have hbl : Below w.heap.size w W1 := by rw [hW1]; exact bel_new (Below.refl _ _) _
 rw [← hW1]
 clear hW1
 have hb2 := bel_new (Below.refl W1.heap.size W1) (.cells #[.int .i32 r, .int .i32 r] 79)
 have hr2 := bel_get hb2 hr1
 have hq2 := heap_alloc_new W1 (.cells #[.int .i32 r, .int .i32 r] 79)
 obtain ⟨⟨d0, d1, d2⟩, g0, g1, g2⟩ := cells3_of' hr2
 refine bodyPost_ret (v := .agg #[.int .i64 2, .slice (some ⟨w.heap.size + 1, 0, none⟩) 1 1, .slice none 0 0]) (by simp [results, Tryz.results16, go_sem, d0, d1, d2, g0, g1, g2]) rfl ⟨_, _, rfl, ?_, bel_then hbl hb2⟩
 rw [← hs1]
 refine pre_set ⟨_, 1, rfl, Nat.le_refl _, by show (1 : Nat) ≤ maxLen; decide, .inr ⟨W1.heap.size, 0, rfl, lt_of_some hq2, fun j u hu => ?_⟩⟩
 unfold World.cell?
 rw [show (⟨W1.heap.size, 0 + j, none⟩ : Addr).block = W1.heap.size from rfl, hq2]
 match j, hu with
 | 0, h => simpa [flatK] using h
 | 1, h => simpa [flatK] using h
 | j + 2, h => simp [flatK] at h
end Go.Proofs.YtfkmajjgkdjncaaGreatDoor

set_option maxHeartbeats 8000000
set_option maxRecDepth 100000
namespace Go.Proofs.YtfkmajjgkdjncaaGreatDoor
open Go.RowKit Ru Wd De
theorem reP_mayB {e : RE} (h : e.may = true) : reP e = e.text := by unfold reP; rw [if_pos h]
theorem sb_rep (i : Nat) (S : ByteArray) (c : UInt8) (h : sb S = List.replicate i (c.toNat : Int)) : sb (S ++ ⟨#[c]⟩) = List.replicate (i + 1) (c.toNat : Int) := by
 rw [sb_app, h, List.replicate_succ']
 rfl
def BkPost (k : Nat) (w : World) (x : Ending) (w' : World) : Prop :=
 ∃ (e : RE) (o1 : Option Addr) (q1 : Nat) (o2 : Option Addr) (q2 : Nat) (c z : Int), x = .returned (.tuple #[.agg #[.int .i64 e.kind, .slice o1 e.set.length q1, .slice o2 e.parts.length q2], .int .i64 c, .int .i64 z]) ∧ Below w.heap.size w w' ∧
  ((k ≤ 40 ∧ c = 0 ∧ e = Px.a1 ∧ ReIs w' Px.a1 (.slice o1 e.set.length q1) (.slice o2 e.parts.length q2)) ∨ (40 < k ∧ c = 7 ∧ z = 40))
theorem brk_re (k : Nat) (T : ByteArray) (w : World) (hT : sb T = Px.brkL k) (hk : k ≤ 45) :
 Calls Tryz.prog 14 #[.string T] w (BkPost k w) := by
 have hlow : ∀ c ∈ sb T, c < 128 := by rw [hT]; exact Px.brk_low k
 have hz : T.size ≤ 100000 := by rw [← sb_len, hT, Px.brk_len]; omega
 have hS := text_src T hlow hz
 obtain ⟨k1, k2, k3⟩ := Px.re_brk T k hT
 by_cases hv : k ≤ 40
 · have h := re_ok T _ w hz (fun p v w hx => by rw [k3]; exact reads_all p T _ hS (k1 hv) v w hx)
   refine h.mono ?_
   rintro x w' ⟨sv, lv, rfl, hk, hb⟩
   obtain ⟨⟨o1, q1, rfl⟩, ⟨o2, q2, rfl⟩⟩ := hk.here.form
   exact ⟨_, o1, q1, o2, q2, 0, 0, rfl, hb, .inl ⟨hv, rfl, rfl, hk.here⟩⟩
 · have h := re_bad T 7 40 w hz (fun p v w hx => k2 (by omega) hS.sc p v w hx)
   refine h.mono ?_
   rintro x w' ⟨rfl, hb⟩
   exact ⟨.mk 0 [] [], none, 0, none, 0, 7, 40, rfl, hb, .inr ⟨by omega, rfl, rfl⟩⟩
theorem parseBrackets_walk (a : List Int) (va : Value) (n : Int) (w : World) (ha : Row w va a.length (a.map (Value.int .i64))) :
 Calls Tryz.prog 4 #[va, .int .i64 n] w fun x w' => x = .returned (.bool true) ∧ Below w.heap.size w w' := by
 have ha0 := ha
 obtain ⟨oa, ca, rfl, _⟩ := ha
 have hm1 := make6_any a oa ca w ha0
 obtain ⟨gx, mx, zx⟩ := M6.makeR_ok a
 obtain ⟨x, hx⟩ : ∃ x, x = M6.makeR a := ⟨_, rfl⟩
 unfold M6Post at hm1
 rw [← hx] at hm1 gx mx zx
 have HPR := Lib.hid (fun sv lv w' (hr : ReIs w' x sv lv) => rPrintRe_any x sv lv w' (by omega) hr gx.fit)
 have HRE := Lib.hid (fun w' => re_text x w' (Pm.may_back mx).1 gx.nn (Pm.may_back mx).2.1 (by omega))
 have HSM := Lib.hid (fun w' sa la sb lb (h1 : ReIs w' x sa la) (h2 : ReIs w' x sb lb) => esame_all w' x.size x x sa la sb lb w' (Nat.le_refl _) gx.fit gx.fit h1 h2 (Below.refl _ _))
 have hss : x.same x = true := (RE.same_iff _ _ _ (Nat.le_refl _)).2 rfl
 have HSS := Lib.hid hss
 have HR := Lib.hid (reP_mayB mx)
 obtain ⟨S, hS⟩ : ∃ S, S = x.text := ⟨_, rfl⟩
 obtain ⟨kx, hkx⟩ : ∃ n, n = x.kind := ⟨_, rfl⟩
 have HS := Lib.hid (And.intro hS hkx)
 obtain ⟨U, hU⟩ : ∃ U : Nat, U = (n % 18446744073709551616).toNat := ⟨_, rfl⟩
 have hu : IntKind.u64.wrap n = (U : Int) := by rw [hU]; show n % 18446744073709551616 = _; omega
 obtain ⟨k, hk⟩ : ∃ k, k = U % 46 := ⟨_, rfl⟩
 have hkl : k ≤ 45 := by omega
 have hk1 : (U : Int) % 46 = (k : Int) := by omega
 have HK := Lib.hid hk
 have HM1 := Lib.hid hm1
 clear hm1 ha0 gx mx zx hS hkx hx hss hU hk
 go_enter Tryz.func4, Tryz.ntmps4
 go_wp2_with fail
 refine HM1.out.mono ?_
 rintro e1 w1 ⟨s1, l1, rfl, hk1', hb1⟩
 obtain ⟨⟨o1, q1, rfl⟩, ⟨o2, q2, rfl⟩⟩ := hk1'.here.form
 rw [← HS.out.2]
 obtain ⟨W1, hW1⟩ : ∃ W1, W1 = w1.alloc (.cells #[.int .i64 kx, .slice o1 x.set.length q1, .slice o2 x.parts.length q2] 35) := ⟨_, rfl⟩
 have hbW : Below w1.heap.size w1 W1 := by rw [hW1]; exact bel_new (Below.refl _ _) _
 have hq1 : W1.heap[w1.heap.size]? = some (.cells #[.int .i64 kx, .slice o1 x.set.length q1, .slice o2 x.parts.length q2] 35 (0, 0)) := by rw [hW1]; exact heap_alloc_new w1 _
 have H1 := Lib.hid (And.intro (hk1'.here.moved hbW) (And.intro hq1 (bel_then hb1 hbW)))
 have HW1 := Lib.hid hW1
 clear hk1' hb1 hbW hW1
 go_wp2_with fail
 rw [← HW1.out]
 have hp := HPR.out (.slice o1 x.set.length q1) (.slice o2 x.parts.length q2) W1 H1.out.1
 rw [HR.out, ← HS.out.1, ← HS.out.2] at hp
 refine hp.mono ?_
 rintro e2 w2 ⟨rfl, hb2⟩
 have H2 := Lib.hid (And.intro (H1.out.1.moved hb2) (And.intro (bel_get hb2 H1.out.2.1) (bel_then H1.out.2.2 hb2)))
 clear hb2 hp
 go_wp2_with fail
 go_loopg [8, 9, 10] k (fun g v8 v9 v10 wx => ∃ (i : Nat) (O C : ByteArray), i + g = k ∧ v8 = .string O ∧ v9 = .string C ∧ v10 = .int .i64 i ∧ sb O = List.replicate i 40 ∧ sb C = List.replicate i 41 ∧ wx = w2)
 case atStart => exact ⟨0, ⟨#[]⟩, ⟨#[]⟩, by omega, rfl, rfl, rfl, rfl, rfl, rfl⟩
 case round =>
  obtain ⟨i, O, C, hig, rfl, rfl, rfl, hO, hC, hw⟩ := hrel
  have hw := hw.symm
  subst hw
  have hzO : O.size = i := by rw [← sb_len, hO, List.length_replicate]
  have hzC : C.size = i := by rw [← sb_len, hC, List.length_replicate]
  have HOC := Lib.hid (And.intro hO hC)
  have z1 : ¬ 9223372036854775807 < O.size + 1 := by omega
  have z2 : ¬ 9223372036854775807 < C.size + 1 := by omega
  clear hO hC
  by_cases hik : i < k
  · have e1 : decide ((i : Int) < (k : Int)) = true := by simp; omega
    have e2 : decide (i < k) = true := by simp; omega
    clear hzO hzC
    go_wp2_with fail
    obtain ⟨g, rfl⟩ : ∃ g, gk = g + 1 := ⟨gk - 1, by omega⟩
    go_roundg g
    case measure => omega
    case rel => exact ⟨i + 1, _, _, by omega, rfl, rfl, congrArg _ (by omega), sb_rep i O 40 HOC.out.1, sb_rep i C 41 HOC.out.2, rfl⟩
  · have hik2 : i = k := by omega
    have e1 : decide ((i : Int) < (k : Int)) = false := by simp; omega
    have e2 : decide (i < k) = false := by simp; omega
    obtain ⟨T, hT⟩ : ∃ T, T = O ++ (⟨#[97]⟩ : ByteArray) ++ C := ⟨_, rfl⟩
    have hsT : sb T = Px.brkL k := by
     rw [hT, sb_app, sb_app, HOC.out.1, HOC.out.2, hik2]
     show List.replicate k 40 ++ [97] ++ List.replicate k 41 = _
     simp [Px.brkL]
    have z3 : ¬ 9223372036854775807 < O.size + 1 + C.size := by omega
    have z4 : ¬ 9223372036854775807 < (O ++ (⟨#[97]⟩ : ByteArray)).size + C.size := by rw [ByteArray.size_append]; show ¬ 9223372036854775807 < O.size + 1 + C.size; omega
    have HT := Lib.hid (And.intro hT hsT)
    have hre := HRE.out w2
    rw [← HS.out.1] at hre
    have HR3 := Lib.hid hre
    clear hzO hzC hik hik2 hT hsT hre
    go_wp2_with fail
    refine HR3.out.mono ?_
    rintro e3 w3 ⟨s3, l3, rfl, hk3, hb3⟩
    obtain ⟨⟨o3, q3, rfl⟩, ⟨o4, q4, rfl⟩⟩ := hk3.here.form
    rw [← HS.out.2]
    have hbn := bel_new (Below.refl w3.heap.size w3) (.cells #[.int .i64 kx, .slice o3 x.set.length q3, .slice o4 x.parts.length q4] 35)
    have hbb := bel_then hb3 hbn
    have hn3 := heap_alloc_new w3 (.cells #[.int .i64 kx, .slice o3 x.set.length q3, .slice o4 x.parts.length q4] 35)
    obtain ⟨W3, hW3⟩ : ∃ W3, W3 = w3.alloc (.cells #[.int .i64 kx, .slice o3 x.set.length q3, .slice o4 x.parts.length q4] 35) := ⟨_, rfl⟩
    rw [← hW3] at hbb hn3 hbn
    have H3 := Lib.hid (And.intro (H2.out.1.moved hbb) (And.intro (hk3.here.moved hbn) (bel_then H2.out.2.2 hbb)))
    have hold := bel_get hbb H2.out.2.1
    have hlt1 : w1.heap.size < w3.heap.size := lt_of_some (bel_get hb3 H2.out.2.1)
    have hne1 : ¬ w1.heap.size = w3.heap.size := by omega
    obtain ⟨⟨c0, c1, c2⟩, _⟩ := cells3_of' (bel_get hb3 H2.out.2.1)
    have HW3 := Lib.hid hW3
    clear hk3 hb3 hbn hbb hold hn3 hW3
    go_wp2_with fail
    rw [← HW3.out]
    have hsm := HSM.out W3 (.slice o3 x.set.length q3) (.slice o4 x.parts.length q4) (.slice o1 x.set.length q1) (.slice o2 x.parts.length q2) H3.out.2.1 H3.out.1
    rw [← HS.out.2, HSS.out] at hsm
    refine hsm.mono ?_
    rintro e4 w4 ⟨rfl, hb4⟩
    have H4 := Lib.hid (bel_then H3.out.2.2 hb4)
    clear hb4 hsm c0 c1 c2
    go_wp2_with (with_reducible rw [← HT.out.1])
    refine (brk_re k T _ HT.out.2 hkl).mono ?_
    rintro e5 w5 ⟨e, o5, q5, o6, q6, c, z, rfl, hb5, hor⟩
    rcases hor with ⟨hk40, rfl, rfl, hr5⟩ | ⟨hk40, rfl, rfl⟩
    · have t1 : decide (40 < k) = false := by simp; omega
      have t2 : decide ((40 : Int) < (k : Int)) = false := by simp; omega
      have hbn := bel_new (Below.refl w5.heap.size w5) (.cells #[.int .i64 Px.a1.kind, .slice o5 Px.a1.set.length q5, .slice o6 Px.a1.parts.length q6] 35)
      have hq5 := heap_alloc_new w5 (.cells #[.int .i64 Px.a1.kind, .slice o5 Px.a1.set.length q5, .slice o6 Px.a1.parts.length q6] 35)
      have hb45 := bel_then H4.out (bel_then hb5 hbn)
      have hx5 := hr5.moved hbn
      rw [show Px.a1.kind = 2 from rfl, show Px.a1.set.length = 1 from rfl, show Px.a1.parts.length = 0 from rfl] at *
      obtain ⟨⟨d0, d1, d2⟩, _⟩ := cells3_of' hq5
      obtain ⟨W5, hW5⟩ : ∃ W5, W5 = w5.alloc (.cells #[.int .i64 2, .slice o5 1 q5, .slice o6 0 q6] 35) := ⟨_, rfl⟩
      have hfit : Px.a1.Fit := .mk 2 [(97, 97)] [] (by intro x hx; simp at hx; subst hx; exact ⟨by decide, by decide⟩) (by simp) (by simp) (fun i e h => by simp at h)
      have hsame : Px.a1.same Px.a1 = true := (RE.same_iff _ _ _ (Nat.le_refl _)).2 rfl
      have HSA := Lib.hid (fun so lo w' (h1 : ReIs w' Px.a1 (.slice o5 1 q5) (.slice o6 0 q6)) (h2 : ReIs w' Px.a1 so lo) => esame_all w' _ Px.a1 Px.a1 (.slice o5 1 q5) (.slice o6 0 q6) so lo w' (Nat.le_refl _) hfit hfit h1 h2 (Below.refl _ _))
      have HSB := Lib.hid hsame
      have HQ5 := Lib.hid (And.intro hq5 (And.intro hx5 hb45))
      have HW5 := Lib.hid hW5
      clear hq5 hx5 hb45 hbn hb5 hr5 hfit hsame hW5 hk40
      go_wp2_with fail
      have HDR := Lib.hid ((Below.refl W5.heap.size W5).drew)
      rw [← HW5.out] at HQ5 d0 d1 d2 ⊢
      go_region_law
       (first
        | (go_simp; go_at_call 9; refine (told13_any _).mono ?_; rintro x5 w6 ⟨rfl, hb5⟩; have H5 := Lib.hid (bel_then HDR.out hb5); obtain ⟨⟨f0, f1, f2⟩, _⟩ := cells3_of' (bel_get H5.out HQ5.out.1))
        | (go_simp; go_at_call 16; refine (one6_any 97 _).mono ?_; rintro x6 w7 ⟨so, lo, rfl, hr6, hb6⟩; have H6 := Lib.hid (bel_then H5.out hb6); have HR6 := Lib.hid hr6; obtain ⟨⟨i0, i1, i2⟩, _⟩ := cells3_of' (bel_get H6.out HQ5.out.1))
        | (go_simp; go_at_call 15; refine (HSA.out so lo _ (HQ5.out.2.1.moved H6.out) HR6.out).mono ?_; rintro x7 w8 ⟨rfl, hb7⟩; rw [HSB.out]; have H7 := Lib.hid (bel_then HQ5.out.2.2 (bel_then H6.out hb7))))
      all_goals (
       try go_wp2_with fail
       go_ret
       exact ⟨rfl, H7.out⟩)
    · have t1 : decide (40 < k) = true := by simp; omega
      have t2 : decide ((40 : Int) < (k : Int)) = true := by simp; omega
      have H5 := Lib.hid (bel_then H4.out (bel_then hb5 (bel_new (Below.refl w5.heap.size w5) (.cells #[.int .i64 e.kind, .slice o5 e.set.length q5, .slice o6 e.parts.length q6] 35))))
      clear hb5 hk40
      go_wp2_with fail
      refine (told13_any _).mono ?_
      rintro e6 w6 ⟨rfl, hb6⟩
      have H6 := Lib.hid (bel_then H5.out hb6)
      clear hb6
      go_wp2_with fail
      go_ret
      exact ⟨rfl, H6.out⟩
end Go.Proofs.YtfkmajjgkdjncaaGreatDoor
