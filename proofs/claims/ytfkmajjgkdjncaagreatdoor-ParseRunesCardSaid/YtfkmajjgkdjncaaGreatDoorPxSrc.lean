/- Merged. -/
import Derived.Test.YtfkmajjgkdjncaaGreatDoorPmRe
import Derived.Test.YtfkmajjgkdjncaaGreatDoorPaCls
import Derived.Test.YtfkmajjgkdjncaaGreatDoorPaAlts
set_option linter.unusedVariables false
set_option linter.unusedSimpArgs false
namespace Go.Proofs.YtfkmajjgkdjncaaGreatDoor
open Go.RowKit De Wd Ru
namespace Px
inductive Rs where
 | ok (e : RE) (k : Nat)
 | bad (c : Int) (z : Nat)
inductive ScanC (L : Its) : Nat → Nat → Prop
 | stop {k : Nat} (h : k < L.length → pk L k = 93) (h2 : k ≤ L.length) : ScanC L k k
 | esc {k j : Nat} (h : k + 1 < L.length) (e : pk L k = 92) (r : ScanC L (k + 2) j) : ScanC L k j
 | go {k j : Nat} (h : k < L.length) (e : pk L k ≠ 93) (e2 : k + 1 < L.length → pk L k ≠ 92) (r : ScanC L (k + 1) j) : ScanC L k j
inductive EscTo (L : Its) : Nat → Nat → Prop
 | one {k : Nat} (h : pk L k ≠ 117) : EscTo L k (min (k + 1) L.length)
 | num {k j : Nat} (h : pk L k = 117) (s : Pm.ScanB L (k + 1) j) : EscTo L k (min (j + 1) L.length)
def clsR (L : Its) (n : Nat) (cl : Nat → Nat → Cr) (a j : Nat) : Rs :=
 match cl a (plc L n j) with
 | .bad z => .bad 3 (a + z)
 | .ok S => if pk L j = 93 then .ok (.mk 2 S []) (j + 1) else .bad 3 (plc L n j)
def escR (L : Its) (n : Nat) (cl : Nat → Nat → Cr) (a j : Nat) : Rs :=
 match cl a (plc L n j) with
 | .bad z => .bad 3 (a + z)
 | .ok S => .ok (.mk 2 S []) j
section
variable (L : Its) (n : Nat) (cl : Nat → Nat → Cr)
mutual
inductive Alts : Nat → Nat → Rs → Prop
 | mk {d k k1 : Nat} {a : RE} {R : Rs} (h : Alt d k (.ok a k1)) (r : AltsL d a k1 R) : Alts d k R
 | bad {d k z : Nat} {c : Int} (h : Alt d k (.bad c z)) : Alts d k (.bad c z)
inductive AltsL : Nat → RE → Nat → Rs → Prop
 | stop {d k : Nat} {a : RE} (h : pk L k ≠ 124) : AltsL d a k (.ok a k)
 | go {d k k1 : Nat} {a b : RE} {R : Rs} (h : pk L k = 124) (p : Alt d (k + 1) (.ok b k1)) (r : AltsL d (.mk 4 [] [a, b]) k1 R) : AltsL d a k R
 | bad {d k z : Nat} {a : RE} {c : Int} (h : pk L k = 124) (p : Alt d (k + 1) (.bad c z)) : AltsL d a k (.bad c z)
inductive Alt : Nat → Nat → Rs → Prop
 | none {d k : Nat} (h : Pm.atm (pk L k) = false) : Alt d k (.ok (.mk 1 [] []) k)
 | some {d k k1 : Nat} {a : RE} {R : Rs} (h : Pm.atm (pk L k) = true) (p : Post d k (.ok a k1)) (r : AltL d a k1 R) : Alt d k R
 | bad {d k z : Nat} {c : Int} (h : Pm.atm (pk L k) = true) (p : Post d k (.bad c z)) : Alt d k (.bad c z)
inductive AltL : Nat → RE → Nat → Rs → Prop
 | stop {d k : Nat} {a : RE} (h : Pm.atm (pk L k) = false) : AltL d a k (.ok a k)
 | go {d k k1 : Nat} {a b : RE} {R : Rs} (h : Pm.atm (pk L k) = true) (p : Post d k (.ok b k1)) (r : AltL d (.mk 3 [] [a, b]) k1 R) : AltL d a k R
 | bad {d k z : Nat} {a : RE} {c : Int} (h : Pm.atm (pk L k) = true) (p : Post d k (.bad c z)) : AltL d a k (.bad c z)
inductive Post : Nat → Nat → Rs → Prop
 | mk {d k k1 k2 : Nat} {a e : RE} (h : Atom d k (.ok a k1)) (r : PoL L a k1 e k2) : Post d k (.ok e k2)
 | bad {d k z : Nat} {c : Int} (h : Atom d k (.bad c z)) : Post d k (.bad c z)
inductive Atom : Nat → Nat → Rs → Prop
 | par {d k k1 : Nat} {e : RE} (h : pk L k = 40) (hd : d < 40) (p : Alts (d + 1) (k + 1) (.ok e k1)) (h2 : pk L k1 = 41) : Atom d k (.ok e (k1 + 1))
 | deep {d k : Nat} (h : pk L k = 40) (hd : d = 40) : Atom d k (.bad 7 (plc L n k))
 | parIn {d k z : Nat} {c : Int} (h : pk L k = 40) (hd : d < 40) (p : Alts (d + 1) (k + 1) (.bad c z)) : Atom d k (.bad c z)
 | parEnd {d k k1 : Nat} {e : RE} (h : pk L k = 40) (hd : d < 40) (p : Alts (d + 1) (k + 1) (.ok e k1)) (h2 : pk L k1 ≠ 41) : Atom d k (.bad 3 (plc L n k1))
 | cls {d k j : Nat} {R : Rs} (h : pk L k = 91) (s : ScanC L (k + 1) j) (c : R = clsR L n cl (plc L n k + 1) j) : Atom d k R
 | esc {d k j : Nat} {R : Rs} (h : pk L k = 92) (s : EscTo L (k + 1) j) (c : R = escR L n cl (plc L n k) j) : Atom d k R
 | dot {d k : Nat} (h : pk L k = 46) : Atom d k (.ok (.mk 2 (Ru.nt [(10, 10)]) []) (k + 1))
 | one {d k : Nat} {r : Int} (h : pk L k = r) (ha : 32 ≤ r ∧ r ∉ Pm.noR) : Atom d k (.ok (.mk 2 [(r, r)] []) (k + 1))
end
end
def Good (L : Its) (n k : Nat) : Rs → Prop
 | .ok _ k' => k ≤ k' ∧ k' ≤ L.length
 | .bad c z => (c = 3 ∨ c = 7) ∧ z ≤ n
structure Src (L : Its) (n : Nat) (cl : Nat → Nat → Cr) : Prop where
 lim : ∀ k, plc L n k ≤ n
 mono : ∀ i j, i ≤ j → plc L n i ≤ plc L n j
 next : ∀ i, i < L.length → plc L n i + 1 ≤ plc L n (i + 1)
 bad : ∀ a b z, a ≤ b → b ≤ n → cl a b = .bad z → a + z ≤ n
theorem scanC_le {L : Its} {k j : Nat} (h : ScanC L k j) : k ≤ j ∧ j ≤ L.length := by
 induction h with
 | stop _ h => exact ⟨Nat.le_refl _, h⟩
 | esc _ _ _ ih => exact ⟨by omega, ih.2⟩
 | go _ _ _ _ ih => exact ⟨by omega, ih.2⟩
section
variable {L : Its} {n : Nat} {cl : Nat → Nat → Cr}
end
end Px
end Go.Proofs.YtfkmajjgkdjncaaGreatDoor

namespace Go.Proofs.YtfkmajjgkdjncaaGreatDoor
open Go.RowKit De Wd
end Go.Proofs.YtfkmajjgkdjncaaGreatDoor

set_option maxHeartbeats 4000000
set_option maxRecDepth 100000
namespace Go.Proofs.YtfkmajjgkdjncaaGreatDoor
open Go.RowKit De Wd
theorem paAtom_one (p k d : Nat) (s : ByteArray) (L : Its) (v : Value) (w : World) (h : XI w p s L k d v) (hrn : 0 ≤ pk L k) (n40 : pk L k ≠ 40) (n91 : pk L k ≠ 91) (n92 : pk L k ≠ 92) (n46 : pk L k ≠ 46) :
 Calls Tryz.prog 139 #[.pointer (some ⟨p, 0, none⟩)] w fun x w' => ReP w w' (.mk 2 [(pk L k, pk L k)] []) x ∧ Ch w w' p ∧ XI w' p s L (k + 1) d v := by
 have hplt := h.lt
 have hA := h.moved (bel_new (Below.refl _ _) (.cells #[.int .i64 0, .slice none 0 0, .slice none 0 0] 35))
 obtain ⟨W0, hW0⟩ : ∃ W0, W0 = w.alloc (.cells #[.int .i64 0, .slice none 0 0, .slice none 0 0] 35) := ⟨_, rfl⟩
 have hr0 : W0.heap[w.heap.size]? = some (.cells #[.int .i64 0, .slice none 0 0, .slice none 0 0] 35 (0, 0)) := by rw [hW0]; exact heap_alloc_new w _
 have hsW : W0.heap.size = w.heap.size + 1 := by rw [hW0]; simp
 have hcW : Ch w W0 p := by rw [hW0]; exact Ch.of (bel_new (Below.refl _ _) _)
 rw [← hW0] at hA
 obtain ⟨⟨c0, c1, c2, c3⟩, f0, f1, f2, f3⟩ := cells4_of hA.hh
 have hkl := pk_in' rfl hrn
 have hx1 : XI (W0.setCell ⟨p, 2, none⟩ (.int .i64 ((k : Int) + 1))) p s L (k + 1) d v := by
  have h9 := hA.at (k' := k + 1) (by omega)
  rwa [show ((k + 1 : Nat) : Int) = (k : Int) + 1 by omega] at h9
 obtain ⟨W1, hW1⟩ : ∃ W1, W1 = W0.setCell ⟨p, 2, none⟩ (.int .i64 ((k : Int) + 1)) := ⟨_, rfl⟩
 rw [← hW1] at hx1
 have hc1 : Ch W0 W1 p := by rw [hW1]; exact Ch.set _ _ _ _
 have hs1 : W1.heap.size = w.heap.size + 1 := by rw [hW1, ← hsW]; simp [World.setCell]
 have HX := Lib.hid h
 have HA := Lib.hid (And.intro hA (And.intro hr0 hcW))
 have H1 := Lib.hid (And.intro hx1 hc1)
 have HW0 := Lib.hid hW0
 have HW1 := Lib.hid hW1
 have hk0 : (0 : Int) ≤ (k : Int) := by omega
 have hsm := h.small
 have t40 : (pk L k == 40) = false := by simpa using n40
 have t91 : (pk L k == 91) = false := by simpa using n91
 have t92 : (pk L k == 92) = false := by simpa using n92
 have t46 : (pk L k == 46) = false := by simpa using n46
 clear h hA hW0 hW1 hr0 hcW hx1 hc1 hrn n40 n91 n92 n46
 go_enter Tryz.func139, Tryz.ntmps139
 go_wp2_with (with_reducible rw [← HW0.out])
 refine (paPlace_any p k k d s L _ _ HA.out.1).mono ?_
 rintro x w1 ⟨rfl, hw⟩
 have hw := hw.symm
 subst hw
 go_wp2_with fail
 refine (runeAt_any p k k d s L _ _ HA.out.1).mono ?_
 rintro x w1 ⟨rfl, hw⟩
 have hw := hw.symm
 subst hw
 go_wp2_with fail
 rw [← HW1.out]
 have hbel := bel_new (Below.refl W1.heap.size W1) (.cells #[.int .i32 (pk L k), .int .i32 (pk L k)] 79)
 rw [← hs1]
 refine (paset_any (some ⟨W1.heap.size, 0, none⟩) 1 1 _).mono ?_
 rintro x w2 ⟨rfl, hb2⟩
 have hch : Ch W1 w2 p := (Ch.of hbel).trans (Ch.of hb2)
 have hx2 := (H1.out.1.moved hbel).moved hb2
 have hq2 : w2.heap[W1.heap.size]? = some (.cells #[.int .i32 (pk L k), .int .i32 (pk L k)] 79 (0, 0)) := by
  rw [hb2.block _ (by simp)]; exact heap_alloc_new W1 _
 have hkp : KP (fun j => W1.heap.size ≤ j) w2 (fun w3 => ReIs w3 (.mk 2 [(pk L k, pk L k)] []) (.slice (some ⟨W1.heap.size, 0, none⟩) 1 1) (.slice none 0 0)) := by
  refine (KP.block hq2 (Nat.le_refl _)).mono (fun w3 h3 => pre_set ⟨_, 1, rfl, Nat.le_refl _, by show (1 : Nat) ≤ maxLen; decide, .inr ⟨W1.heap.size, 0, rfl, lt_of_some h3, fun j u hu => ?_⟩⟩)
  unfold World.cell?
  rw [show (⟨W1.heap.size, 0 + j, none⟩ : Addr).block = W1.heap.size from rfl, h3]
  match j, hu with
  | 0, h => simpa [flatK] using h
  | 1, h => simpa [flatK] using h
  | j + 2, h => simp [flatK] at h
 have hr2 := (H1.out.2.trans hch).block _ (show w.heap.size < W0.heap.size by omega) (by omega) |>.trans HA.out.2.1
 obtain ⟨⟨d0, d1, d2⟩, g0, g1, g2⟩ := cells3_of' hr2
 have HF := Lib.hid (fin3 HX.out hr2 rfl ((HA.out.2.2.trans H1.out.2).trans hch) hx2 hkp (fun j hj => by omega))
 clear hkp hch hx2 hr2 hq2 c0 c1 c2 c3 f0 f1 f2 f3 hbel hb2 hs1 hsW
 go_wp2_with fail
 obtain ⟨W9, hW, ⟨⟨e0, e1, e2⟩, m0, m1, m2⟩, hre, hc9, hx9⟩ := HF.out
 have HW := Lib.hid hW
 clear hW HF
 rw [show (.int .i64 2 : Value) = .int .i64 (RE.mk 2 [(pk L k, pk L k)] []).kind from rfl, ← HW.out]
 refine bodyPost_ret (v := .agg #[.int .i64 2, .slice (some ⟨W1.heap.size, 0, none⟩) 1 1, .slice none 0 0]) (by simp [results, Tryz.results139, go_sem, e0, e1, e2, m0, m1, m2, RE.kind]) rfl ⟨hre, hc9, hx9⟩
end Go.Proofs.YtfkmajjgkdjncaaGreatDoor

set_option maxHeartbeats 4000000
set_option maxRecDepth 100000
namespace Go.Proofs.YtfkmajjgkdjncaaGreatDoor
open Go.RowKit De Wd
theorem paParens_ok (p k d a k1 : Nat) (s : ByteArray) (L : Its) (v : Value) (e : RE) (w : World) (h : XI w p s L k d v) (hd : d < 40) (h41 : pk L k1 = 41)
 (hat : ∀ w, XI w p s L k (d + 1) v → Calls Tryz.prog 30 #[.pointer (some ⟨p, 0, none⟩)] w fun x w' => ReP w w' e x ∧ Ch w w' p ∧ XI w' p s L k1 (d + 1) v) :
 Calls Tryz.prog 154 #[.pointer (some ⟨p, 0, none⟩), .int .i64 a] w fun x w' => ReP w w' e x ∧ Ch w w' p ∧ XI w' p s L (k1 + 1) d v := by
 have hplt := h.lt
 have hA := h.moved (bel_new (Below.refl _ _) (.cells #[.int .i64 0, .slice none 0 0, .slice none 0 0] 35))
 obtain ⟨W0, hW0⟩ : ∃ W0, W0 = w.alloc (.cells #[.int .i64 0, .slice none 0 0, .slice none 0 0] 35) := ⟨_, rfl⟩
 have hr0 : W0.heap[w.heap.size]? = some (.cells #[.int .i64 0, .slice none 0 0, .slice none 0 0] 35 (0, 0)) := by rw [hW0]; exact heap_alloc_new w _
 have hsW : W0.heap.size = w.heap.size + 1 := by rw [hW0]; simp
 have hcW : Ch w W0 p := by rw [hW0]; exact Ch.of (bel_new (Below.refl _ _) _)
 rw [← hW0] at hA
 obtain ⟨⟨c0, c1, c2, c3⟩, f0, f1, f2, f3⟩ := cells4_of hA.hh
 have hx1 : XI (W0.setCell ⟨p, 3, none⟩ (.int .i64 ((d : Int) + 1))) p s L k (d + 1) v := by
  have h9 := hA.deep (d' := d + 1)
  rwa [show ((d + 1 : Nat) : Int) = (d : Int) + 1 by omega] at h9
 obtain ⟨W1, hW1⟩ : ∃ W1, W1 = W0.setCell ⟨p, 3, none⟩ (.int .i64 ((d : Int) + 1)) := ⟨_, rfl⟩
 rw [← hW1] at hx1
 have hc1 : Ch W0 W1 p := by rw [hW1]; exact Ch.set _ _ _ _
 have hs1 : W1.heap.size = w.heap.size + 1 := by rw [hW1, ← hsW]; simp [World.setCell]
 have HX := Lib.hid h
 have HA := Lib.hid (And.intro hA (And.intro hr0 hcW))
 have H1 := Lib.hid (And.intro hx1 hc1)
 have HT := Lib.hid hat
 have H41 := Lib.hid h41
 have HW0 := Lib.hid hW0
 have HW1 := Lib.hid hW1
 have t1 : ((d : Int) == 40) = false := by simp; omega
 have t2 : (d == 40) = false := by simp; omega
 have hd0 : (0 : Int) ≤ (d : Int) := by omega
 clear h hA hat h41 hW0 hW1 hr0 hcW hx1 hc1
 go_enter Tryz.func154, Tryz.ntmps154
 go_wp2_with (with_reducible rw [← HW0.out])
 rw [← HW1.out]
 refine (HT.out _ H1.out.1).mono ?_
 rintro x w2 ⟨⟨sv, lv, rfl, hkp⟩, hch, hx2⟩
 obtain ⟨⟨o1, q1, rfl⟩, ⟨o2, q2, rfl⟩⟩ := hkp.here.form
 have hr2 := (H1.out.2.trans hch).block _ (show w.heap.size < W0.heap.size by omega) (by omega) |>.trans HA.out.2.1
 have hz2 : w.heap.size < w2.heap.size := lt_of_some hr2
 have hbx : ¬ w2.heap.size = w.heap.size := by omega
 have hx3 := hx2.moved (bel_new (Below.refl _ _) (.cells #[.int .i64 e.kind, .slice o1 e.set.length q1, .slice o2 e.parts.length q2] 35))
 have hb3 := heap_alloc_new w2 (.cells #[.int .i64 e.kind, .slice o1 e.set.length q1, .slice o2 e.parts.length q2] 35)
 have H2 := Lib.hid (And.intro hkp (And.intro hch (And.intro hx3 (And.intro hr2 hb3))))
 clear hkp hch hx2 hx3 hr2 hb3 c0 c1 c2 c3 f0 f1 f2 f3
 go_wp2_with fail
 refine (skip_any p k1 (d + 1) 41 s L _ _ H2.out.2.2.1 (by decide)).mono ?_
 rintro x w4 ⟨rfl, hc4, hx4⟩
 rw [if_pos H41.out] at hx4
 rw [decide_eq_true H41.out]
 obtain ⟨⟨c0, c1, c2, c3⟩, f0, f1, f2, f3⟩ := cells4_of hx4.hh
 have hb4 := (hc4.block _ (lt_of_some H2.out.2.2.2.2) (by omega)).trans H2.out.2.2.2.2
 obtain ⟨⟨d0, d1, d2⟩, g0, g1, g2⟩ := cells3_of' hb4
 have hr4 : w4.heap[w.heap.size]? = some (.cells #[.int .i64 0, .slice none 0 0, .slice none 0 0] 35 (0, 0)) := by
  rw [hc4.block _ (by simp; omega) (by omega), (bel_new (Below.refl w2.heap.size w2) _).block _ hz2]
  exact H2.out.2.2.2.1
 have hq4 : w2.heap.size < w4.heap.size := lt_of_some hb4
 obtain ⟨⟨r0, r1, r2⟩, x0, x1, x2⟩ := cells3_of' hr4
 have hpr : ¬ w.heap.size = p := by omega
 have hpr2 : ¬ p = w.heap.size := by omega
 have hpe : ¬ w2.heap.size = p := by omega
 have hpe2 : ¬ p = w2.heap.size := by omega
 have H4 := Lib.hid (And.intro hc4 (And.intro hx4 hr4))
 have ex : ((d + 1 : Nat) : Int) - 1 = (d : Int) := by omega
 have ex2 : (d : Int) + 1 - 1 = (d : Int) := by omega
 have hx6 : XI (w4.setCell ⟨p, 3, none⟩ (.int .i64 d)) p s L (k1 + 1) d v := hx4.deep
 obtain ⟨W6, hW6⟩ : ∃ W6, W6 = w4.setCell ⟨p, 3, none⟩ (.int .i64 d) := ⟨_, rfl⟩
 rw [← hW6] at hx6
 have hc6 : Ch w4 W6 p := by rw [hW6]; exact Ch.set _ _ _ _
 have hr6 := (hc6.block _ (lt_of_some hr4) (by omega)).trans hr4
 have hk6 : KP (fun j => W1.heap.size ≤ j) W6 (fun w3 => ReIs w3 e (.slice o1 e.set.length q1) (.slice o2 e.parts.length q2)) := by
  refine H2.out.1.to (((Ag.of (bel_new (Below.refl _ _) _)).trans (hc4.ag.sub (fun j _ hj => ?_))).trans (hc6.ag.sub (fun j _ hj => ?_)))
  all_goals omega
 have HF := Lib.hid (fin3 HX.out hr6 rfl (((HA.out.2.2.trans H1.out.2).trans ((H2.out.2.1).trans (Ch.of (bel_new (Below.refl _ _) _)))).trans (hc4.trans hc6)) hx6 hk6 (fun j hj => by omega))
 have HW6 := Lib.hid hW6
 clear hc4 hx4 hb4 hr4 hx6 hc6 hr6 hk6 hW6 ex2
 have EX := Lib.hid ex
 clear ex
 go_wp2_with fail
 try simp only [show ((d + 1 : Nat) : Int) - 1 = (d : Int) by omega]
 rw [← HW6.out]
 obtain ⟨W9, hW, ⟨⟨e0, e1, e2⟩, m0, m1, m2⟩, hre, hc9, hx9⟩ := HF.out
 have HW := Lib.hid hW
 clear hW HF
 rw [← HW.out]
 refine bodyPost_ret (v := .agg #[.int .i64 e.kind, .slice o1 e.set.length q1, .slice o2 e.parts.length q2]) (by simp [results, Tryz.results154, go_sem, e0, e1, e2, m0, m1, m2]) rfl ⟨hre, hc9, hx9⟩
end Go.Proofs.YtfkmajjgkdjncaaGreatDoor

set_option maxHeartbeats 4000000
set_option maxRecDepth 100000
namespace Go.Proofs.YtfkmajjgkdjncaaGreatDoor
open Go.RowKit De Wd
theorem paAtom_par (p k d k2 : Nat) (s : ByteArray) (L : Its) (v : Value) (e : RE) (w : World) (h : XI w p s L k d v) (hrn : pk L k = 40) (hat : ∀ w, XI w p s L (k + 1) d v → Calls Tryz.prog 154 #[.pointer (some ⟨p, 0, none⟩), .int .i64 ((plc L s.size k : Nat) : Int)] w fun x w' => ReP w w' e x ∧ Ch w w' p ∧ XI w' p s L k2 d v) :
 Calls Tryz.prog 139 #[.pointer (some ⟨p, 0, none⟩)] w fun x w' => ReP w w' e x ∧ Ch w w' p ∧ XI w' p s L k2 d v := by
 have hplt := h.lt
 have hA := h.moved (bel_new (Below.refl _ _) (.cells #[.int .i64 0, .slice none 0 0, .slice none 0 0] 35))
 obtain ⟨W0, hW0⟩ : ∃ W0, W0 = w.alloc (.cells #[.int .i64 0, .slice none 0 0, .slice none 0 0] 35) := ⟨_, rfl⟩
 have hr0 : W0.heap[w.heap.size]? = some (.cells #[.int .i64 0, .slice none 0 0, .slice none 0 0] 35 (0, 0)) := by rw [hW0]; exact heap_alloc_new w _
 have hsW : W0.heap.size = w.heap.size + 1 := by rw [hW0]; simp
 have hcW : Ch w W0 p := by rw [hW0]; exact Ch.of (bel_new (Below.refl _ _) _)
 rw [← hW0] at hA
 obtain ⟨⟨c0, c1, c2, c3⟩, f0, f1, f2, f3⟩ := cells4_of hA.hh
 have hkl := pk_in' hrn (by decide)
 have hx1 : XI (W0.setCell ⟨p, 2, none⟩ (.int .i64 ((k : Int) + 1))) p s L (k + 1) d v := by
  have h9 := hA.at (k' := k + 1) (by omega)
  rwa [show ((k + 1 : Nat) : Int) = (k : Int) + 1 by omega] at h9
 obtain ⟨W1, hW1⟩ : ∃ W1, W1 = W0.setCell ⟨p, 2, none⟩ (.int .i64 ((k : Int) + 1)) := ⟨_, rfl⟩
 rw [← hW1] at hx1
 have hc1 : Ch W0 W1 p := by rw [hW1]; exact Ch.set _ _ _ _
 have hs1 : W1.heap.size = w.heap.size + 1 := by rw [hW1, ← hsW]; simp [World.setCell]
 have HX := Lib.hid h
 have HA := Lib.hid (And.intro hA (And.intro hr0 hcW))
 have H1 := Lib.hid (And.intro hx1 hc1)
 have HT := Lib.hid hat
 have HW0 := Lib.hid hW0
 have HW1 := Lib.hid hW1
 have hk0 : (0 : Int) ≤ (k : Int) := by omega
 have hsm := h.small
 have t40 : (pk L k == 40) = true := by rw [hrn]; rfl
 clear h hA hat hW0 hW1 hr0 hcW hx1 hc1 hrn
 go_enter Tryz.func139, Tryz.ntmps139
 go_wp2_with (with_reducible rw [← HW0.out])
 refine (paPlace_any p k k d s L _ _ HA.out.1).mono ?_
 rintro x w1 ⟨rfl, hw⟩
 have hw := hw.symm
 subst hw
 go_wp2_with fail
 refine (runeAt_any p k k d s L _ _ HA.out.1).mono ?_
 rintro x w1 ⟨rfl, hw⟩
 have hw := hw.symm
 subst hw
 go_wp2_with fail
 rw [← HW1.out]
 refine (HT.out _ H1.out.1).mono ?_
 rintro x w2 ⟨⟨sv, lv, rfl, hkp⟩, hch, hx2⟩
 obtain ⟨⟨o1, q1, rfl⟩, ⟨o2, q2, rfl⟩⟩ := hkp.here.form
 have hr2 := (H1.out.2.trans hch).block _ (show w.heap.size < W0.heap.size by omega) (by omega) |>.trans HA.out.2.1
 obtain ⟨⟨d0, d1, d2⟩, g0, g1, g2⟩ := cells3_of' hr2
 have HF := Lib.hid (fin3 HX.out hr2 rfl ((HA.out.2.2.trans H1.out.2).trans hch) hx2 hkp (fun j hj => by omega))
 clear hkp hch hx2 hr2 c0 c1 c2 c3 f0 f1 f2 f3
 go_wp2_with fail
 obtain ⟨W9, hW, ⟨⟨e0, e1, e2⟩, m0, m1, m2⟩, hre, hc9, hx9⟩ := HF.out
 have HW := Lib.hid hW
 clear hW HF
 rw [← HW.out]
 refine bodyPost_ret (v := .agg #[.int .i64 e.kind, .slice o1 e.set.length q1, .slice o2 e.parts.length q2]) (by simp [results, Tryz.results139, go_sem, e0, e1, e2, m0, m1, m2]) rfl ⟨hre, hc9, hx9⟩
theorem paAtom_cls (p k d k2 : Nat) (s : ByteArray) (L : Its) (v : Value) (e : RE) (w : World) (h : XI w p s L k d v) (hrn : pk L k = 91) (hat : ∀ w, XI w p s L (k + 1) d v → Calls Tryz.prog 155 #[.pointer (some ⟨p, 0, none⟩), .int .i64 (((plc L s.size k : Nat) : Int) + 1)] w fun x w' => ReP w w' e x ∧ Ch w w' p ∧ XI w' p s L k2 d v) (hpl : plc L s.size k ≤ 1000000) :
 Calls Tryz.prog 139 #[.pointer (some ⟨p, 0, none⟩)] w fun x w' => ReP w w' e x ∧ Ch w w' p ∧ XI w' p s L k2 d v := by
 have hplt := h.lt
 have hA := h.moved (bel_new (Below.refl _ _) (.cells #[.int .i64 0, .slice none 0 0, .slice none 0 0] 35))
 obtain ⟨W0, hW0⟩ : ∃ W0, W0 = w.alloc (.cells #[.int .i64 0, .slice none 0 0, .slice none 0 0] 35) := ⟨_, rfl⟩
 have hr0 : W0.heap[w.heap.size]? = some (.cells #[.int .i64 0, .slice none 0 0, .slice none 0 0] 35 (0, 0)) := by rw [hW0]; exact heap_alloc_new w _
 have hsW : W0.heap.size = w.heap.size + 1 := by rw [hW0]; simp
 have hcW : Ch w W0 p := by rw [hW0]; exact Ch.of (bel_new (Below.refl _ _) _)
 rw [← hW0] at hA
 obtain ⟨⟨c0, c1, c2, c3⟩, f0, f1, f2, f3⟩ := cells4_of hA.hh
 have hkl := pk_in' hrn (by decide)
 have hx1 : XI (W0.setCell ⟨p, 2, none⟩ (.int .i64 ((k : Int) + 1))) p s L (k + 1) d v := by
  have h9 := hA.at (k' := k + 1) (by omega)
  rwa [show ((k + 1 : Nat) : Int) = (k : Int) + 1 by omega] at h9
 obtain ⟨W1, hW1⟩ : ∃ W1, W1 = W0.setCell ⟨p, 2, none⟩ (.int .i64 ((k : Int) + 1)) := ⟨_, rfl⟩
 rw [← hW1] at hx1
 have hc1 : Ch W0 W1 p := by rw [hW1]; exact Ch.set _ _ _ _
 have hs1 : W1.heap.size = w.heap.size + 1 := by rw [hW1, ← hsW]; simp [World.setCell]
 have HX := Lib.hid h
 have HA := Lib.hid (And.intro hA (And.intro hr0 hcW))
 have H1 := Lib.hid (And.intro hx1 hc1)
 have HT := Lib.hid hat
 have HW0 := Lib.hid hW0
 have HW1 := Lib.hid hW1
 have hk0 : (0 : Int) ≤ (k : Int) := by omega
 have hsm := h.small
 have t40 : (pk L k == 40) = false := by rw [hrn]; rfl
 have t91 : (pk L k == 91) = true := by rw [hrn]; rfl
 have hpi : (0 : Int) ≤ ((plc L s.size k : Nat) : Int) := by omega
 have hpj : ((plc L s.size k : Nat) : Int) ≤ 1000000 := by omega
 clear h hA hat hW0 hW1 hr0 hcW hx1 hc1 hrn
 go_enter Tryz.func139, Tryz.ntmps139
 go_wp2_with (with_reducible rw [← HW0.out])
 refine (paPlace_any p k k d s L _ _ HA.out.1).mono ?_
 rintro x w1 ⟨rfl, hw⟩
 have hw := hw.symm
 subst hw
 go_wp2_with fail
 refine (runeAt_any p k k d s L _ _ HA.out.1).mono ?_
 rintro x w1 ⟨rfl, hw⟩
 have hw := hw.symm
 subst hw
 go_wp2_with fail
 rw [← HW1.out]
 refine (HT.out _ H1.out.1).mono ?_
 rintro x w2 ⟨⟨sv, lv, rfl, hkp⟩, hch, hx2⟩
 obtain ⟨⟨o1, q1, rfl⟩, ⟨o2, q2, rfl⟩⟩ := hkp.here.form
 have hr2 := (H1.out.2.trans hch).block _ (show w.heap.size < W0.heap.size by omega) (by omega) |>.trans HA.out.2.1
 obtain ⟨⟨d0, d1, d2⟩, g0, g1, g2⟩ := cells3_of' hr2
 have HF := Lib.hid (fin3 HX.out hr2 rfl ((HA.out.2.2.trans H1.out.2).trans hch) hx2 hkp (fun j hj => by omega))
 clear hkp hch hx2 hr2 c0 c1 c2 c3 f0 f1 f2 f3
 go_wp2_with fail
 obtain ⟨W9, hW, ⟨⟨e0, e1, e2⟩, m0, m1, m2⟩, hre, hc9, hx9⟩ := HF.out
 have HW := Lib.hid hW
 clear hW HF
 rw [← HW.out]
 refine bodyPost_ret (v := .agg #[.int .i64 e.kind, .slice o1 e.set.length q1, .slice o2 e.parts.length q2]) (by simp [results, Tryz.results139, go_sem, e0, e1, e2, m0, m1, m2]) rfl ⟨hre, hc9, hx9⟩
theorem paAtom_esc (p k d k2 : Nat) (s : ByteArray) (L : Its) (v : Value) (e : RE) (w : World) (h : XI w p s L k d v) (hrn : pk L k = 92) (hat : ∀ w, XI w p s L (k + 1) d v → Calls Tryz.prog 156 #[.pointer (some ⟨p, 0, none⟩), .int .i64 ((plc L s.size k : Nat) : Int)] w fun x w' => ReP w w' e x ∧ Ch w w' p ∧ XI w' p s L k2 d v) :
 Calls Tryz.prog 139 #[.pointer (some ⟨p, 0, none⟩)] w fun x w' => ReP w w' e x ∧ Ch w w' p ∧ XI w' p s L k2 d v := by
 have hplt := h.lt
 have hA := h.moved (bel_new (Below.refl _ _) (.cells #[.int .i64 0, .slice none 0 0, .slice none 0 0] 35))
 obtain ⟨W0, hW0⟩ : ∃ W0, W0 = w.alloc (.cells #[.int .i64 0, .slice none 0 0, .slice none 0 0] 35) := ⟨_, rfl⟩
 have hr0 : W0.heap[w.heap.size]? = some (.cells #[.int .i64 0, .slice none 0 0, .slice none 0 0] 35 (0, 0)) := by rw [hW0]; exact heap_alloc_new w _
 have hsW : W0.heap.size = w.heap.size + 1 := by rw [hW0]; simp
 have hcW : Ch w W0 p := by rw [hW0]; exact Ch.of (bel_new (Below.refl _ _) _)
 rw [← hW0] at hA
 obtain ⟨⟨c0, c1, c2, c3⟩, f0, f1, f2, f3⟩ := cells4_of hA.hh
 have hkl := pk_in' hrn (by decide)
 have hx1 : XI (W0.setCell ⟨p, 2, none⟩ (.int .i64 ((k : Int) + 1))) p s L (k + 1) d v := by
  have h9 := hA.at (k' := k + 1) (by omega)
  rwa [show ((k + 1 : Nat) : Int) = (k : Int) + 1 by omega] at h9
 obtain ⟨W1, hW1⟩ : ∃ W1, W1 = W0.setCell ⟨p, 2, none⟩ (.int .i64 ((k : Int) + 1)) := ⟨_, rfl⟩
 rw [← hW1] at hx1
 have hc1 : Ch W0 W1 p := by rw [hW1]; exact Ch.set _ _ _ _
 have hs1 : W1.heap.size = w.heap.size + 1 := by rw [hW1, ← hsW]; simp [World.setCell]
 have HX := Lib.hid h
 have HA := Lib.hid (And.intro hA (And.intro hr0 hcW))
 have H1 := Lib.hid (And.intro hx1 hc1)
 have HT := Lib.hid hat
 have HW0 := Lib.hid hW0
 have HW1 := Lib.hid hW1
 have hk0 : (0 : Int) ≤ (k : Int) := by omega
 have hsm := h.small
 have t40 : (pk L k == 40) = false := by rw [hrn]; rfl
 have t91 : (pk L k == 91) = false := by rw [hrn]; rfl
 have t92 : (pk L k == 92) = true := by rw [hrn]; rfl
 clear h hA hat hW0 hW1 hr0 hcW hx1 hc1 hrn
 go_enter Tryz.func139, Tryz.ntmps139
 go_wp2_with (with_reducible rw [← HW0.out])
 refine (paPlace_any p k k d s L _ _ HA.out.1).mono ?_
 rintro x w1 ⟨rfl, hw⟩
 have hw := hw.symm
 subst hw
 go_wp2_with fail
 refine (runeAt_any p k k d s L _ _ HA.out.1).mono ?_
 rintro x w1 ⟨rfl, hw⟩
 have hw := hw.symm
 subst hw
 go_wp2_with fail
 rw [← HW1.out]
 refine (HT.out _ H1.out.1).mono ?_
 rintro x w2 ⟨⟨sv, lv, rfl, hkp⟩, hch, hx2⟩
 obtain ⟨⟨o1, q1, rfl⟩, ⟨o2, q2, rfl⟩⟩ := hkp.here.form
 have hr2 := (H1.out.2.trans hch).block _ (show w.heap.size < W0.heap.size by omega) (by omega) |>.trans HA.out.2.1
 obtain ⟨⟨d0, d1, d2⟩, g0, g1, g2⟩ := cells3_of' hr2
 have HF := Lib.hid (fin3 HX.out hr2 rfl ((HA.out.2.2.trans H1.out.2).trans hch) hx2 hkp (fun j hj => by omega))
 clear hkp hch hx2 hr2 c0 c1 c2 c3 f0 f1 f2 f3
 go_wp2_with fail
 obtain ⟨W9, hW, ⟨⟨e0, e1, e2⟩, m0, m1, m2⟩, hre, hc9, hx9⟩ := HF.out
 have HW := Lib.hid hW
 clear hW HF
 rw [← HW.out]
 refine bodyPost_ret (v := .agg #[.int .i64 e.kind, .slice o1 e.set.length q1, .slice o2 e.parts.length q2]) (by simp [results, Tryz.results139, go_sem, e0, e1, e2, m0, m1, m2]) rfl ⟨hre, hc9, hx9⟩
end Go.Proofs.YtfkmajjgkdjncaaGreatDoor

set_option maxHeartbeats 1000000
set_option maxRecDepth 100000
namespace Go.Proofs.YtfkmajjgkdjncaaGreatDoor
open Go.RowKit De Wd
theorem paAlt_none (p k d : Nat) (s : ByteArray) (L : Its) (v : Value) (w : World) (h : XI w p s L k d v) (h1 : Sc L) (hatm : Pm.atm (pk L k) = false) :
 Calls Tryz.prog 69 #[.pointer (some ⟨p, 0, none⟩)] w fun x w' => ReP w w' (.mk 1 [] []) x ∧ Ch w w' p ∧ XI w' p s L k d v := by
 have hplt := h.lt
 have hA := h.moved (bel_new (Below.refl _ _) (.cells #[.int .i64 0, .slice none 0 0, .slice none 0 0] 35))
 obtain ⟨W0, hW0⟩ : ∃ W0, W0 = w.alloc (.cells #[.int .i64 0, .slice none 0 0, .slice none 0 0] 35) := ⟨_, rfl⟩
 have hr0 : W0.heap[w.heap.size]? = some (.cells #[.int .i64 0, .slice none 0 0, .slice none 0 0] 35 (0, 0)) := by rw [hW0]; exact heap_alloc_new w _
 have hcW : Ch w W0 p := by rw [hW0]; exact Ch.of (bel_new (Below.refl _ _) _)
 rw [← hW0] at hA
 obtain ⟨⟨d0, d1, d2⟩, g0, g1, g2⟩ := cells3_of' hr0
 have HR0 := Lib.hid (And.intro h (And.intro hr0 hcW))
 have HA := Lib.hid hA
 have HW0 := Lib.hid hW0
 clear h hA hr0 hcW hW0 d0 d1 d2 g0 g1 g2
 go_enter Tryz.func69, Tryz.ntmps69
 go_wp2_with (with_reducible rw [← HW0.out])
 refine (atomNext_any p k d s L v _ HA.out h1).mono ?_
 rintro x wz ⟨rfl, hwz⟩
 rw [hatm]
 have hrz := (hwz.block _ (lt_of_some HR0.out.2.1)).trans HR0.out.2.1
 obtain ⟨⟨d0, d1, d2⟩, g0, g1, g2⟩ := cells3_of' hrz
 have HF := Lib.hid (fin3 (S := fun j => w.heap.size < j) (e := .mk 1 [] []) (sv := .slice none 0 0) (lv := .slice none 0 0) HR0.out.1 hrz rfl (HR0.out.2.2.trans (Ch.of hwz)) (HA.out.moved hwz) (fun w2 _ => pre_leaf) (fun j hj => hj))
 clear hwz hrz
 go_wp2_with fail
 obtain ⟨W9, hW, ⟨⟨e0, e1, e2⟩, m0, m1, m2⟩, hre, hc9, hx9⟩ := HF.out
 have HW := Lib.hid hW
 clear hW HF
 rw [show (.int .i64 1 : Value) = .int .i64 (RE.mk 1 [] []).kind from rfl, ← HW.out]
 refine bodyPost_ret (v := .agg #[.int .i64 1, .slice none 0 0, .slice none 0 0]) (by simp [results, Tryz.results69, go_sem, e0, e1, e2, m0, m1, m2, RE.kind]) rfl ⟨hre, hc9, hx9⟩
structure SrcOk (s : ByteArray) (L : Its) : Prop where
 small : s.size ≤ 100000
 lim : ∀ k, plc L s.size k ≤ s.size
 mono : ∀ i j, i ≤ j → plc L s.size i ≤ plc L s.size j
 next : ∀ i, i < L.length → plc L s.size i + 1 ≤ plc L s.size (i + 1)
 sc : Sc L
def CT (p : Nat) (s : ByteArray) (L : Its) (f : FuncId) (d k : Nat) (e : RE) (k' : Nat) : Prop :=
 ∀ v w, XI w p s L k d v → Calls Tryz.prog f #[.pointer (some ⟨p, 0, none⟩)] w fun x w' => ReP w w' e x ∧ Ch w w' p ∧ XI w' p s L k' d v
theorem scanC_le' {L : Its} {k j : Nat} (h : Pm.ScanC L k j) : k ≤ j := by
 induction h with
 | stop _ => omega
 | esc _ _ _ ih => omega
 | go _ _ _ _ ih => omega
theorem scanB_le' {L : Its} {k j : Nat} (h : Pm.ScanB L k j) : k ≤ j := by
 induction h with
 | stop _ => omega
 | go _ _ _ ih => omega
end Go.Proofs.YtfkmajjgkdjncaaGreatDoor

namespace Go.Proofs.YtfkmajjgkdjncaaGreatDoor
open Go.RowKit De Wd Ru
theorem plc_cons (x : Nat × It) (T : Its) (n k : Nat) : plc (x :: T) n (k + 1) = plc T n k := by unfold Wd.plc; simp
theorem all_plc : ∀ (N a : Nat) (l : List Int), l.length ≤ N →
 (∀ k, a ≤ plc (all a l) (a + l.length) k ∧ plc (all a l) (a + l.length) k ≤ a + l.length) ∧ (∀ k, k < (all a l).length → plc (all a l) (a + l.length) k + 1 ≤ plc (all a l) (a + l.length) (k + 1)) := by
 intro N
 induction N with
 | zero =>
  intro a l h
  obtain rfl : l = [] := List.length_eq_zero_iff.1 (by omega)
  rw [all_nil]
  exact ⟨fun k => by unfold Wd.plc; simp, fun k hk => by simp at hk⟩
 | succ N ih =>
  intro a l h
  by_cases hl : l = []
  · subst hl
    rw [all_nil]
    exact ⟨fun k => by unfold Wd.plc; simp, fun k hk => by simp at hk⟩
  · obtain ⟨h1, _, h2⟩ := one_n l
    have h3 := h2 hl
    obtain ⟨m, hm⟩ : ∃ m, m = (De.one l).n := ⟨_, rfl⟩
    rw [all_cons a l hl, ← hm]
    rw [← hm] at h1 h3
    have hd : (l.drop m).length = l.length - m := List.length_drop
    obtain ⟨g1, g2⟩ := ih (a + m) (l.drop m) (by omega)
    rw [show a + m + (l.drop m).length = a + l.length by omega] at g1 g2
    refine ⟨fun k => ?_, fun k hk => ?_⟩
    · cases k with
      | zero => exact ⟨Nat.le_refl _, Nat.le_add_right _ _⟩
      | succ k => rw [plc_cons]; have := g1 k; omega
    · cases k with
      | zero => rw [plc_cons]; have := g1 0; show a + 1 ≤ _; omega
      | succ k => rw [plc_cons, plc_cons]; exact g2 k (by simpa using hk)
theorem plc_out {L : Its} {n k : Nat} (h : ¬ k < L.length) : plc L n k = n := by unfold Wd.plc; rw [List.getElem?_eq_none (by omega)]
theorem clsF_le {l : List Int} {n z : Nat} (hn : n = l.length) (h : clsF (all 0 l) n = .bad z) : z ≤ n := by
 have hp := fun k => ((all_plc l.length 0 l (Nat.le_refl _)).1 k).2
 rw [Nat.zero_add, ← hn] at hp
 unfold clsF at h
 split at h
 · cases h; exact hp _
 · split at h <;> split at h
   all_goals first | (cases h; exact Nat.le_refl _) | cases h
theorem src_any (s : ByteArray) (hs : s.size ≤ 100000) : SrcOk s (all 0 (sb s)) := by
 obtain ⟨g1, g2⟩ := all_plc (sb s).length 0 (sb s) (Nat.le_refl _)
 rw [Nat.zero_add, sb_len] at g1 g2
 refine ⟨hs, fun k => (g1 k).2, fun i j hij => ?_, g2, sc_all _ 0 _ (Nat.le_refl _) (sb_u8 _)⟩
 induction j with
 | zero => obtain rfl : i = 0 := by omega
           exact Nat.le_refl _
 | succ j ih =>
  by_cases e : i = j + 1
  · subst e; exact Nat.le_refl _
  · have h1 := ih (by omega)
    by_cases hj : j < (all 0 (sb s)).length
    · have := g2 j hj; omega
    · rw [plc_out hj] at h1
      rw [plc_out (show ¬ j + 1 < _ by omega)]; exact h1
theorem px_src (s : ByteArray) (hs : s.size ≤ 100000) : Px.Src (all 0 (sb s)) s.size (clS s) := by
 have h := src_any s hs
 refine ⟨h.lim, h.mono, h.next, fun a b z hab hb hc => ?_⟩
 unfold clS at hc
 have hx : (s.extract a b).size = b - a := by rw [ByteArray.size_extract]; omega
 have := clsF_le (sb_len _).symm hc
 omega
end Go.Proofs.YtfkmajjgkdjncaaGreatDoor
