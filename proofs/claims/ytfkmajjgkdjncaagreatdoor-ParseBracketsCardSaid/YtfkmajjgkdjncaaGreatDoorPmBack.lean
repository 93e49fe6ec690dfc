/- Merged. -/
import Derived.Deep.DeepCutAuto
import Derived.Deep.CutBlock
import Derived.Deep.RegionHeld3
import Derived.Test.YtfkmajjgkdjncaaGreatDoorPmPar
set_option linter.unusedVariables false
set_option linter.unusedSimpArgs false
set_option maxHeartbeats 4000000
set_option maxRecDepth 100000
namespace Go.Proofs.YtfkmajjgkdjncaaGreatDoor
open Go.RowKit Ru
def smB (c : Nat) : Bool := decide (97 ≤ c) && decide (c ≤ 122)
def dgB (c : Nat) : Bool := decide (48 ≤ c) && decide (c ≤ 57)
theorem refSmall_any (c : Nat) (w : World) : Calls Tryz.prog 113 #[.int .u8 (c : Int)] w fun x w' => x = .returned (.bool (smB c)) ∧ w' = w := by
 by_cases h : 97 ≤ c
 · have h1 : decide ((97 : Int) ≤ (c : Int)) = true := by simp; omega
   have h1b : decide (97 ≤ c) = true := by simpa using h
   by_cases h2 : c ≤ 122
   · have h3 : decide ((c : Int) ≤ 122) = true := by simp; omega
     have h3b : decide (c ≤ 122) = true := by simpa using h2
     have HX := Lib.hid (show smB c = true by unfold smB; rw [h1b, h3b]; rfl)
     go_enter Tryz.func113, Tryz.ntmps113
     go_wp2_with fail
     go_ret
     exact ⟨by rw [HX.out]; rfl, rfl⟩
   · have h3 : decide ((c : Int) ≤ 122) = false := by simp; omega
     have h3b : decide (c ≤ 122) = false := by simpa using h2
     have HX := Lib.hid (show smB c = false by unfold smB; rw [h1b, h3b]; rfl)
     go_enter Tryz.func113, Tryz.ntmps113
     go_wp2_with fail
     go_ret
     exact ⟨by rw [HX.out]; rfl, rfl⟩
 · have h1 : decide ((97 : Int) ≤ (c : Int)) = false := by simp; omega
   have h1b : decide (97 ≤ c) = false := by simpa using h
   have HX := Lib.hid (show smB c = false by unfold smB; rw [h1b]; rfl)
   go_enter Tryz.func113, Tryz.ntmps113
   go_wp2_with fail
   go_ret
   exact ⟨by rw [HX.out]; rfl, rfl⟩
theorem refDigit_any (c : Nat) (w : World) : Calls Tryz.prog 114 #[.int .u8 (c : Int)] w fun x w' => x = .returned (.bool (dgB c)) ∧ w' = w := by
 by_cases h : 48 ≤ c
 · have h1 : decide ((48 : Int) ≤ (c : Int)) = true := by simp; omega
   have h1b : decide (48 ≤ c) = true := by simpa using h
   by_cases h2 : c ≤ 57
   · have h3 : decide ((c : Int) ≤ 57) = true := by simp; omega
     have h3b : decide (c ≤ 57) = true := by simpa using h2
     have HX := Lib.hid (show dgB c = true by unfold dgB; rw [h1b, h3b]; rfl)
     go_enter Tryz.func114, Tryz.ntmps114
     go_wp2_with fail
     go_ret
     exact ⟨by rw [HX.out]; rfl, rfl⟩
   · have h3 : decide ((c : Int) ≤ 57) = false := by simp; omega
     have h3b : decide (c ≤ 57) = false := by simpa using h2
     have HX := Lib.hid (show dgB c = false by unfold dgB; rw [h1b, h3b]; rfl)
     go_enter Tryz.func114, Tryz.ntmps114
     go_wp2_with fail
     go_ret
     exact ⟨by rw [HX.out]; rfl, rfl⟩
 · have h1 : decide ((48 : Int) ≤ (c : Int)) = false := by simp; omega
   have h1b : decide (48 ≤ c) = false := by simpa using h
   have HX := Lib.hid (show dgB c = false by unfold dgB; rw [h1b]; rfl)
   go_enter Tryz.func114, Tryz.ntmps114
   go_wp2_with fail
   go_ret
   exact ⟨by rw [HX.out]; rfl, rfl⟩
def kN (k : Int) : Nat := if k = 3 then 1 else if k = 5 ∨ k = 6 then 2 else if k = 7 then 1 else 0
end Go.Proofs.YtfkmajjgkdjncaaGreatDoor

set_option maxHeartbeats 8000000
set_option maxRecDepth 100000
namespace Go.Proofs.YtfkmajjgkdjncaaGreatDoor
open Go.RowKit Ru
inductive RE.W2 : RE → Prop
 | mk (k : Int) (s : List (Int × Int)) (l : List RE) (h3 : k = 3 ∨ k = 4 → l.length = 2) (h : ∀ (i : Nat) (e : RE), l[i]? = some e → RE.W2 e) : RE.W2 (.mk k s l)
def ESameIh (w0 : World) (N : Nat) : Prop := ∀ (a b : RE) (na la nb lb : Value) (w : World), a.size ≤ N → a.Fit → b.Fit → ReIs w0 a na la → ReIs w0 b nb lb → Below w0.heap.size w0 w →
 Calls Tryz.prog 15 #[.agg #[.int .i64 a.kind, na, la], .agg #[.int .i64 b.kind, nb, lb]] w fun x w' => x = .returned (.bool (a.same b)) ∧ Below w.heap.size w w'
theorem esame_all (w0 : World) : ∀ N, ESameIh w0 N := by
 intro N
 induction N with
 | zero => intro a b na la nb lb w hs; have := a.size_pos; omega
 | succ N ih =>
  intro a b na la nb lb w hs hfa hfb hra hrb hb0
  obtain ⟨⟨o1, q1, rfl⟩, -⟩ := hra.form
  obtain ⟨⟨o2, q2, rfl⟩, -⟩ := hrb.form
  have sa := hra.set
  have sb := hrb.set
  obtain ⟨p1, r1, ka, nao, nan, nac, lao, lan, lac, rfl, halla⟩ := hra.row3
  obtain ⟨p2, r2, kb, nbo, nbn, nbc, lbo, lbn, lbc, rfl, hallb⟩ := hrb.row3
  have m1 := hfa.sets
  have m2 := hfb.sets
  have hnam := fun w' (hb : Below w.heap.size w w') => refSame_any a.set b.set (.slice o1 a.set.length q1) (.slice o2 b.set.length q2) w' (sa.below (bel_then hb0 hb)) (sb.below (bel_then hb0 hb)) (by omega) (by omega)
  have hin : ∀ (i : Nat) (x y : RE) (w' : World), a.parts[i]? = some x → b.parts[i]? = some y → Below w.heap.size w w' → Calls Tryz.prog 15 #[.agg #[.int .i64 (ka i), .slice (nao i) (nan i) (nac i), .slice (lao i) (lan i) (lac i)], .agg #[.int .i64 (kb i), .slice (nbo i) (nbn i) (nbc i), .slice (lbo i) (lbn i) (lbc i)]] w' fun e w'' => e = .returned (.bool (x.same y)) ∧ Below w'.heap.size w' w'' := by
   intro i x y w' hx hy hb
   obtain ⟨h1, h2, -⟩ := halla i x hx
   obtain ⟨h3, h4, -⟩ := hallb i y hy
   rw [h1, h3]
   exact ih _ _ _ _ _ _ w' (by have := RE.size_part hx; omega) (hfa.part hx) (hfb.part hy) h2 h4 (bel_then hb0 hb)
  have HN := Lib.hid hnam
  have HIN := Lib.hid hin
  have HA := Lib.hid halla
  have HB := Lib.hid hallb
  have HB0 := Lib.hid hb0
  have HE := Lib.hid (RE.same_eq a b)
  clear hnam hin halla hallb hra hrb hb0 ih sa sb
  have hB1 : ∀ (x y : Obj), Below w.heap.size w ((w.alloc x).alloc y) := fun x y => bel_new (bel_new (Below.refl _ _) _) _
  by_cases k1 : a.kind = b.kind
  case neg =>
   have b1 : (a.kind != b.kind) = true := by simpa using k1
   have HX := Lib.hid (show a.same b = false by rw [HE.out, decide_eq_false k1]; rfl)
   clear k1
   go_enter Tryz.func15, Tryz.ntmps15
   go_wp2_with fail
   go_ret
   exact ⟨by rw [HX.out]; rfl, hB1 _ _⟩
  have b1 : (a.kind != b.kind) = false := by simpa using k1
  have HK := Lib.hid k1
  clear k1
  by_cases k2 : a.parts.length = b.parts.length
  case neg =>
   have l1 : ((a.parts.length : Int) != (b.parts.length : Int)) = true := by simp; omega
   have l2 : (a.parts.length != b.parts.length) = true := by simpa using k2
   have HX := Lib.hid (show a.same b = false by rw [HE.out, decide_eq_false k2]; simp)
   clear k2
   go_enter Tryz.func15, Tryz.ntmps15
   go_wp2_with fail
   go_ret
   exact ⟨by rw [HX.out]; rfl, hB1 _ _⟩
  obtain ⟨n, hn⟩ : ∃ n, n = a.parts.length := ⟨_, rfl⟩
  have hn2 : n = b.parts.length := by omega
  have HLN := Lib.hid (And.intro hn (And.intro hn2 k2))
  have hn9 : n ≤ 1000 := by omega
  rw [← hn, ← hn2]
  clear k2 hn hn2
  have l1 : ((n : Int) != (n : Int)) = false := by simp
  have l2 : (n != n) = false := by simp
  go_enter Tryz.func15, Tryz.ntmps15
  go_wp2_with fail
  refine (HN.out _ (by exact hB1 _ _)).mono ?_
  rintro x w2 ⟨rfl, hb2'⟩
  have d2 : w2.cell? ⟨w.heap.size, 2, none⟩ = some (.slice p1 n r1) := cell_later hb2' (by simp [go_sem])
  have d3 : w2.cell? ⟨w.heap.size + 1, 2, none⟩ = some (.slice p2 n r2) := cell_later hb2' (by simp [go_sem])
  have hb2 : Below w.heap.size w w2 := bel_then (hB1 _ _) hb2'
  clear hb2'
  have HB2 := Lib.hid hb2
  clear hb2
  cases hs : decide (a.set = b.set) with
  | false =>
   have HX := Lib.hid (show a.same b = false by rw [HE.out, hs]; simp)
   go_wp2_with fail
   go_ret
   exact ⟨by rw [HX.out]; rfl, HB2.out⟩
  | true =>
  have HXS := Lib.hid hs
  have e2 := d2
  have e3 := d3
  have HB4 := HB2
  clear d2 d3 HB2
  have HW4 := Lib.hid (And.intro e2 e3)
  go_wp2_with fail
  clear e2 e3
  go_loopg [5] n (fun g s5 wx => ∃ k : Nat, k + g = n ∧ s5 = .int .i64 (k : Int) ∧ Below w.heap.size w wx ∧ wx.cell? ⟨w.heap.size, 2, none⟩ = some (.slice p1 n r1) ∧ wx.cell? ⟨w.heap.size + 1, 2, none⟩ = some (.slice p2 n r2) ∧ ∀ j x y, j < k → a.parts[j]? = some x → b.parts[j]? = some y → x.same y = true)
  case atStart => exact ⟨0, by omega, rfl, HB4.out, HW4.out.1, HW4.out.2, fun j x y hj => by omega⟩
  case round =>
   obtain ⟨k, hkg, rfl, hbel, e2, e3, hall⟩ := hrel
   have HR := Lib.hid (And.intro hbel hall)
   clear hall
   cases gk with
   | zero =>
    obtain rfl : k = n := by omega
    have hd : decide ((k : Int) < (k : Int)) = false := by simp
    have hd2 : decide (k < k) = false := by simp
    have HX := Lib.hid (show a.same b = true by
     rw [HE.out, decide_eq_true HK.out, HXS.out, decide_eq_true HLN.out.2.2, (RE.sameL_iff a.parts b.parts).2 (fun i x y hx hy => HR.out.2 i x y (by have := (List.getElem?_eq_some_iff.1 hx).1; have := HLN.out.1; omega) hx hy)]
     rfl)
    clear hbel
    go_wp2_with fail
    go_ret
    exact ⟨by rw [HX.out]; rfl, HR.out.1⟩
   | succ g =>
    have hk : k < n := by omega
    have hd : decide ((k : Int) < (n : Int)) = true := by simp; omega
    have hd2 : decide (k < n) = true := by simpa using hk
    have hk1 : (0 : Int) ≤ (k : Int) := by omega
    have hk2 : (k : Int) < (n : Int) := by omega
    obtain ⟨x, hx⟩ : ∃ x, a.parts[k]? = some x := ⟨_, List.getElem?_eq_getElem (by have := HLN.out.1; omega)⟩
    obtain ⟨y, hy⟩ : ∃ y, b.parts[k]? = some y := ⟨_, List.getElem?_eq_getElem (by have := HLN.out.2.1; omega)⟩
    obtain ⟨-, -, b1', f1, rfl, hlta, u0, u1, u2⟩ := HA.out k x hx
    obtain ⟨-, -, b2', f2, rfl, hltb, v0, v1, v2⟩ := HB.out k y hy
    have hbb := bel_then HB0.out hbel
    rw [← hbb.cell hlta] at u0 u1 u2
    rw [← hbb.cell hltb] at v0 v1 v2
    have hcal := fun w' hb' => HIN.out k x y w' hx hy hb'
    obtain ⟨x0, hx0⟩ : ∃ z, z = ka k := ⟨_, rfl⟩
    obtain ⟨x1o, hx1o⟩ : ∃ z, z = nao k := ⟨_, rfl⟩
    obtain ⟨x1n, hx1n⟩ : ∃ z, z = nan k := ⟨_, rfl⟩
    obtain ⟨x1c, hx1c⟩ : ∃ z, z = nac k := ⟨_, rfl⟩
    obtain ⟨x3o, hx3o⟩ : ∃ z, z = lao k := ⟨_, rfl⟩
    obtain ⟨x3n, hx3n⟩ : ∃ z, z = lan k := ⟨_, rfl⟩
    obtain ⟨x3c, hx3c⟩ : ∃ z, z = lac k := ⟨_, rfl⟩
    obtain ⟨y0, hy0⟩ : ∃ z, z = kb k := ⟨_, rfl⟩
    obtain ⟨y1o, hy1o⟩ : ∃ z, z = nbo k := ⟨_, rfl⟩
    obtain ⟨y1n, hy1n⟩ : ∃ z, z = nbn k := ⟨_, rfl⟩
    obtain ⟨y1c, hy1c⟩ : ∃ z, z = nbc k := ⟨_, rfl⟩
    obtain ⟨y3o, hy3o⟩ : ∃ z, z = lbo k := ⟨_, rfl⟩
    obtain ⟨y3n, hy3n⟩ : ∃ z, z = lbn k := ⟨_, rfl⟩
    obtain ⟨y3c, hy3c⟩ : ∃ z, z = lbc k := ⟨_, rfl⟩
    rw [← hx0, ← hx1o, ← hx1n, ← hx1c, ← hx3o, ← hx3n, ← hx3c, ← hy0, ← hy1o, ← hy1n, ← hy1c, ← hy3o, ← hy3n, ← hy3c] at hcal
    rw [← hx0] at u0
    rw [← hx1o, ← hx1n, ← hx1c] at u1
    rw [← hx3o, ← hx3n, ← hx3c] at u2
    rw [← hy0] at v0
    rw [← hy1o, ← hy1n, ← hy1c] at v1
    rw [← hy3o, ← hy3n, ← hy3c] at v2
    have HCAL := Lib.hid hcal
    have HXY := Lib.hid (And.intro hx hy)
    clear hcal hx hy hbb hx0 hx1o hx1n hx1c hx3o hx3n hx3c hy0 hy1o hy1n hy1c hy3o hy3n hy3c hlta hltb hbel
    go_upto_region 6 with (fail)
    go_region_held3 (fun w' => w'.cell? ⟨w.heap.size, 2, none⟩ = some (.slice (some ⟨b1', f1, none⟩) n r1) ∧ w'.cell? ⟨w.heap.size + 1, 2, none⟩ = some (.slice (some ⟨b2', f2, none⟩) n r2) ∧ w'.cell? ⟨b1', f1 + k * 3, none⟩ = some (.int .i64 x0) ∧ w'.cell? ⟨b1', f1 + k * 3 + 1, none⟩ = some (.slice x1o x1n x1c) ∧ w'.cell? ⟨b1', f1 + k * 3 + 2, none⟩ = some (.slice x3o x3n x3c) ∧
     w'.cell? ⟨b2', f2 + k * 3, none⟩ = some (.int .i64 y0) ∧ w'.cell? ⟨b2', f2 + k * 3 + 1, none⟩ = some (.slice y1o y1n y1c) ∧ w'.cell? ⟨b2', f2 + k * 3 + 2, none⟩ = some (.slice y3o y3n y3c))
     (first | exact ⟨e2, e3, u0, u1, u2, v0, v1, v2⟩ | exact ⟨cell_later hb3 e2, cell_later hb3 e3, cell_later hb3 u0, cell_later hb3 u1, cell_later hb3 u2, cell_later hb3 v0, cell_later hb3 v1, cell_later hb3 v2⟩)
     (first
      | (go_simp; go_at_call 15; refine (HCAL.out _ (HR.out.1.drew)).mono ?_; rintro e w3 ⟨rfl, hb3'⟩; have hb3 : Below wr.heap.size wr w3 := Below.trans (Below.refl _ _).drew hb3'))
    all_goals (
     have HB3 := Lib.hid (bel_then HR.out.1 hb3)
     have g2 : w3.cell? ⟨w.heap.size, 2, none⟩ = some (.slice (some ⟨b1', f1, none⟩) n r1) := cell_later hb3 e2
     have g3 : w3.cell? ⟨w.heap.size + 1, 2, none⟩ = some (.slice (some ⟨b2', f2, none⟩) n r2) := cell_later hb3 e3
     clear hb3 hb3' e2 e3 u0 u1 u2 v0 v1 v2
     cases hxy : x.same y with
     | true =>
      have HXT := Lib.hid hxy
      go_wp2_with fail
      go_roundg g
      case measure => omega
      case rel =>
       refine ⟨k + 1, by omega, by simp, HB3.out, g2, g3, fun j x' y' hj hx' hy' => ?_⟩
       rcases Nat.lt_or_ge j k with h | h
       · exact HR.out.2 j x' y' h hx' hy'
       · obtain rfl : j = k := by omega
         rw [HXY.out.1] at hx'; rw [HXY.out.2] at hy'; cases hx'; cases hy'; exact HXT.out
     | false =>
      have HX := Lib.hid (show a.same b = false by
       rw [HE.out]
       cases hz : RE.sameL a.parts b.parts with
       | false => simp
       | true => rw [(RE.sameL_iff a.parts b.parts).1 hz k x y HXY.out.1 HXY.out.2] at hxy; cases hxy)
      go_wp2_with fail
      go_ret
      exact ⟨by rw [HX.out]; rfl, HB3.out⟩)
end Go.Proofs.YtfkmajjgkdjncaaGreatDoor

namespace Go.Proofs.YtfkmajjgkdjncaaGreatDoor
open Go.RowKit Ru
end Go.Proofs.YtfkmajjgkdjncaaGreatDoor

namespace Go.Proofs.YtfkmajjgkdjncaaGreatDoor
open Go.RowKit Ru
end Go.Proofs.YtfkmajjgkdjncaaGreatDoor

namespace Go.Proofs.YtfkmajjgkdjncaaGreatDoor
open Go.RowKit Ru
namespace PT
end PT
end Go.Proofs.YtfkmajjgkdjncaaGreatDoor

namespace Go.Proofs.YtfkmajjgkdjncaaGreatDoor
open Go.RowKit Ru
end Go.Proofs.YtfkmajjgkdjncaaGreatDoor

namespace Go.Proofs.YtfkmajjgkdjncaaGreatDoor
open Go.RowKit Ru
end Go.Proofs.YtfkmajjgkdjncaaGreatDoor

namespace Go.Proofs.YtfkmajjgkdjncaaGreatDoor
open Go.RowKit Ru
end Go.Proofs.YtfkmajjgkdjncaaGreatDoor

namespace Go.Proofs.YtfkmajjgkdjncaaGreatDoor
open Go.RowKit De Wd Ru
namespace Pm
def nl : Pw := ⟨5, [10]⟩
end Pm
end Go.Proofs.YtfkmajjgkdjncaaGreatDoor

namespace Go.Proofs.YtfkmajjgkdjncaaGreatDoor
open Go.RowKit De Wd Ru
namespace Pm
inductive Stp (V : Ws) : Nat → ST → Nat → Prop
 | bare {k k1 : Nat} {p : PT} (h : ¬ sg V k 94) (q : PAlts V 0 k p k1) : Stp V k ⟨[], p⟩ k1
 | calls {k j k1 : Nat} {ns : List ByteArray} {p : PT} (h : sg V k 94) (h1 : sg V (k + 1) 123) (n : Nms V (k + 2) ns j) (h2 : sg V j 125) (q : PAlts V 0 (j + 1) p k1) : Stp V k ⟨ns, p⟩ k1
inductive Stps (V : Ws) : Nat → List ST → Nat → Prop
 | last {k k1 : Nat} {s : ST} (h : Stp V k s k1) (h2 : ¬ sg V k1 94) : Stps V k [s] k1
 | more {k k1 k2 : Nat} {s : ST} {l : List ST} (h : Stp V k s k1) (h2 : sg V k1 94) (r : Stps V k1 l k2) : Stps V k (s :: l) k2
structure TkA (V : Ws) (k : Nat) (t : TK) (tx : ByteArray) : Prop where
 w0 : V[k]? = some (1, [116, 111, 107])
 w1 : V[k + 1]? = some (1, sb t.name)
 w2 : V[k + 2]? = some (1, sb (kindB t.kind))
 w3 : V[k + 3]? = some (2, sb (decB t.cls))
 w4 : sg V (k + 4) 61
 w5 : V[k + 5]? = some (4, sb tx)
 nm : namB t.name = true
 kd : t.kind = 0 ∨ t.kind = 1 ∨ t.kind = 2
 cl : 0 ≤ t.cls ∧ t.cls ≤ 31
structure RuAt (V : Ws) (k : Nat) (r : RU) (k1 : Nat) : Prop where
 w0 : V[k]? = some (1, [114, 117, 108, 101])
 w1 : V[k + 1]? = some (2, sb (decB r.cls))
 cl : 0 ≤ r.cls ∧ r.cls ≤ 31
 f1 : r.free = true → V[k + 2]? = some (1, [102, 114, 101, 101]) ∧ Stps V (k + 3) r.steps k1
 f0 : r.free = false → V[k + 2]? ≠ some (1, [102, 114, 101, 101]) ∧ Stps V (k + 2) r.steps k1
inductive Lns (V : Ws) (TA : Nat → TK → Prop) : Nat → List TK → List RU → Prop
 | fin {k : Nat} (h : k = V.length) : Lns V TA k [] []
 | nl {k : Nat} {T : List TK} {R : List RU} (h5 : V[k]? = some (5, [])) (r : Lns V TA (k + 1) T R) : Lns V TA k T R
 | tok {k : Nat} {t : TK} {T : List TK} {R : List RU} (h : TA k t) (h5 : V[k + 6]? = some (5, [])) (r : Lns V TA (k + 7) T R) : Lns V TA k (t :: T) R
 | rule {k k1 : Nat} {r : RU} {T : List TK} {R : List RU} (h : RuAt V k r k1) (h5 : V[k1]? = some (5, [])) (q : Lns V TA (k1 + 1) T R) : Lns V TA k T (r :: R)
end Pm
end Go.Proofs.YtfkmajjgkdjncaaGreatDoor
