/- Merged. -/
import Derived.OrdersHeld
import Derived.Deep.CutBlock
import Derived.Test.YtfkmajjgkdjncaaGreatDoorPsTok
import Derived.Test.YtfkmajjgkdjncaaGreatDoorPsRule
import Derived.Deep.LoopGhost
import Derived.Deep.RegionLaw
set_option linter.unusedVariables false
set_option linter.unusedSimpArgs false
namespace Go.Proofs.YtfkmajjgkdjncaaGreatDoor
open Go.RowKit Ru
namespace PT
mutual
def deep : PT → Nat
 | .mk _ _ _ l => deeps l + 1
def deeps : List PT → Nat
 | [] => 0
 | e :: l => max (deep e) (deeps l)
end
end PT
open PT
structure Gh where
 l : List Int
 I : List ByteArray
 C : List ByteArray
 R : List ByteArray
theorem sizes_append : ∀ (a b : List PT), sizes (a ++ b) = sizes a + sizes b := by
 intro a
 induction a with
 | nil => intro b; rw [sizes_nil]; simp
 | cons x a ih => intro b; rw [List.cons_append, sizes_cons, sizes_cons, ih]; omega
end Go.Proofs.YtfkmajjgkdjncaaGreatDoor
namespace Go.Proofs.YtfkmajjgkdjncaaGreatDoor
open Go.RowKit Ru
end Go.Proofs.YtfkmajjgkdjncaaGreatDoor
namespace Go.Proofs.YtfkmajjgkdjncaaGreatDoor
open Go Go.RowKit
section
variable {P : Program} {ops : Array Oper} {Q : Exit → Act → World → Prop} {md : Region.Mode} {S : World → Prop}
end
end Go.Proofs.YtfkmajjgkdjncaaGreatDoor

namespace Go.Proofs.YtfkmajjgkdjncaaGreatDoor
open Go.RowKit Ru PT
abbrev four (p : PT × Value × Value × Value) : List Value := [.int .i64 p.1.kind, p.2.1, p.2.2.1, p.2.2.2]
section
variable {T : List TK} {G : Gh} {w wx : World} {j n c v : Nat} {k : Int} {o : Option Addr} {ps : List (PT × Value × Value × Value)}
end
theorem set4 (xs : List Value) (k : Nat) (hk : xs.length = k) (a0 a1 a2 a3 b0 b1 b2 b3 : Value) : ((((xs ++ [a0, a1, a2, a3]).set k b0).set (k + 1) b1).set (k + 2) b2).set (k + 3) b3 = xs ++ [b0, b1, b2, b3] := by
 subst hk
 simp [List.set_append]
end Go.Proofs.YtfkmajjgkdjncaaGreatDoor
namespace Go.Proofs.YtfkmajjgkdjncaaGreatDoor
open Go.RowKit Ru PT
end Go.Proofs.YtfkmajjgkdjncaaGreatDoor
namespace Go.Proofs.YtfkmajjgkdjncaaGreatDoor
open Go.RowKit Ru PT
end Go.Proofs.YtfkmajjgkdjncaaGreatDoor

namespace Go.Proofs.YtfkmajjgkdjncaaGreatDoor
open Go.RowKit Ru PT
end Go.Proofs.YtfkmajjgkdjncaaGreatDoor

namespace Go.Proofs.YtfkmajjgkdjncaaGreatDoor
open Go.RowKit Ru
theorem set3_alloc {w : World} {o : Obj} {g i j k : Nat} {a b c : Value} (hg : g < w.heap.size) : (((w.alloc o).setCell ⟨g, i, none⟩ a).setCell ⟨g, j, none⟩ b).setCell ⟨g, k, none⟩ c =
 (((w.setCell ⟨g, i, none⟩ a).setCell ⟨g, j, none⟩ b).setCell ⟨g, k, none⟩ c).alloc o := by
 rw [World.setCell_alloc_past _ _ _ _ hg, World.setCell_alloc_past _ _ _ _ (by simpa [World.setCell] using hg), World.setCell_alloc_past _ _ _ _ (by simpa [World.setCell] using hg)]
namespace RGoodF
theorem one {s : ST} (h1 : s.calls.length ≤ 1000) (h2 : s.p.Fit) : SFit [s] := fun i t h => by
 match i, h with
 | 0, h => cases h; exact ⟨h1, h2⟩
 | (n + 1), h => simp at h
theorem tok (nm : ByteArray) : (PT.mk 2 [nm] [] []).Fit := .mk 2 [nm] [] [] (by simp) (by decide) (by decide) (fun i p h => by simp at h)
end RGoodF
end Go.Proofs.YtfkmajjgkdjncaaGreatDoor

namespace Go.Proofs.YtfkmajjgkdjncaaGreatDoor
open Go.RowKit Ru
def cellsOf (w : World) (g : Nat) : List Value := match w.heap[g]? with
 | some (.cells cs _ _) => cs.toList
 | _ => []
theorem infoInt : ∃ i, Tryz.prog.info? 3 = some i ∧ i.zero = some (.int .i64 0) ∧ i.size = 1 ∧ i.bytes = 8 := info_parts (by kernel_rfl)
end Go.Proofs.YtfkmajjgkdjncaaGreatDoor

set_option maxHeartbeats 4000000
set_option maxRecDepth 100000
namespace Go.Proofs.YtfkmajjgkdjncaaGreatDoor
open Go.RowKit De Wd
theorem pline_nl (p k k0 d0 : Nat) (U : List Uw) (V : Pm.Ws) (hV : VOk V U) (wv tv rv ti ri : Value) (tv0 rv0 ti0 ri0 : Value) (pst : List (TK × Value × Value)) (psr : List (RU × Value)) (lt lr : List Int) (w0 w : World) (h0 : PI w0 p U k0 d0 wv tv0 rv0 ti0 ri0) (hli : LI w0 w p U k wv tv rv ti ri pst psr lt lr) (h5 : V[k]? = some (5, [])) :
 Calls Tryz.prog 23 #[.pointer (some ⟨p, 0, none⟩)] w fun x w' => x = .returned (.tuple #[]) ∧ LI w0 w' p U (k + 1) wv tv rv ti ri pst psr lt lr := by
 have hplt := hli.x.lt
 have hp0 := h0.lt
 have hkl := hli.x.le
 have hsm := hli.x.small
 have hn3 := hli.n3
 have hw00 := hli.c.size
 obtain ⟨o5, c5, hv5⟩ := owns_slice hli.it
 subst hv5
 have hfd0 : ∀ (a c : Int) (b : ByteArray) (w : World), (Instr.field 72 (.agg #[.int .i64 a, .string b, .int .i64 c]) 0).run Tryz.prog w = .ok (.int .i64 a) w := fun _ _ _ _ => by kernel_rfl
 have hfd2 : ∀ (a c : Int) (b : ByteArray) (w : World), (Instr.field 72 (.agg #[.int .i64 a, .string b, .int .i64 c]) 2).run Tryz.prog w = .ok (.int .i64 c) w := fun _ _ _ _ => by kernel_rfl
 obtain ⟨⟨qk, qb, qn⟩, hqq⟩ := hV.at hkl
 obtain ⟨e1, e2⟩ := v_name (b := ⟨#[]⟩) hV hqq h5
 dsimp only at e1 e2
 obtain rfl : (5 : Int) = qk := e1.symm
 obtain ⟨ii, hi0, hi1, hi2, hi3⟩ := infoInt
 have HLI := Lib.hid hli
 have HX0 := Lib.hid h0
 have HQ := Lib.hid hqq
 clear hli h0 h5 hqq e1 e2
 go_enter Tryz.func23, Tryz.ntmps23
 go_wp2_with fail
 refine (peekP_any p k 0 U wv tv rv (.slice o5 lt.length c5) ri ((5 : Int), qb, qn) _ HLI.out.x HQ.out).mono ?_
 rintro x w1 ⟨rfl, hb1⟩
 dsimp only [wdv]
 have H1 := Lib.hid (HLI.out.ch hp0 (Ch.of hb1) (HLI.out.x.moved hb1) (Nat.le_refl _))
 clear hb1
 go_wp2_with fail
 refine (kind_any 5 _).mono ?_
 rintro x wt2 ⟨b12, rfl, hbx, hbt⟩
 have HY2 := Lib.hid (And.intro (H1.out.x.moved hbt) (And.intro hbx hbt))
 clear hbx hbt
 go_wp2_with fail
 refine (pskipK p k 0 U wv tv rv (.slice o5 lt.length c5) ri 5 b12 ((5 : Int), qb, qn) _ (by decide) HY2.out.1 HQ.out HY2.out.2.1).mono ?_
 rintro x w2 ⟨rfl, hc2, hx2⟩
 replace hc2 := (Ch.of (p := p) HY2.out.2.2).trans hc2
 rw [show tsk 5 ((5 : Int), qb, qn) = true from rfl] at hx2 ⊢
 rw [if_pos rfl] at hx2
 have H2 := Lib.hid (H1.out.ch hp0 hc2 hx2 (Nat.le_succ _))
 clear hc2 hx2
 go_wp2_with fail
 exact bodyPost_ret (results_none rfl _ _ _) rfl ⟨rfl, H2.out⟩
theorem pline_tok (p k k0 d0 : Nat) (U : List Uw) (V : Pm.Ws) (hV : VOk V U) (wv tv rv ti ri : Value) (tv0 rv0 ti0 ri0 : Value) (pst : List (TK × Value × Value)) (psr : List (RU × Value)) (lt lr : List Int) (t : TK) (tx : ByteArray) (w0 w : World) (h0 : PI w0 p U k0 d0 wv tv0 rv0 ti0 ri0) (hli : LI w0 w p U k wv tv rv ti ri pst psr lt lr) (hT : Pm.TkA V k t tx) (hsz : ∀ w, Calls Tryz.prog 14 #[.string tx] w (ReOk t.re w)) (h5 : V[k + 6]? = some (5, [])) :
 Calls Tryz.prog 23 #[.pointer (some ⟨p, 0, none⟩)] w fun x w' => x = .returned (.tuple #[]) ∧ ∃ tv' ti' a b n, LI w0 w' p U (k + 7) wv tv' rv ti' ri (pst ++ [(t, a, b)]) psr (lt ++ [n]) lr := by
 have hplt := hli.x.lt
 have hp0 := h0.lt
 have hkl := hli.x.le
 have hsm := hli.x.small
 have hn3 := hli.n3
 have hw00 := hli.c.size
 obtain ⟨o5, c5, hv5⟩ := owns_slice hli.it
 subst hv5
 have hfd0 : ∀ (a c : Int) (b : ByteArray) (w : World), (Instr.field 72 (.agg #[.int .i64 a, .string b, .int .i64 c]) 0).run Tryz.prog w = .ok (.int .i64 a) w := fun _ _ _ _ => by kernel_rfl
 have hfd2 : ∀ (a c : Int) (b : ByteArray) (w : World), (Instr.field 72 (.agg #[.int .i64 a, .string b, .int .i64 c]) 2).run Tryz.prog w = .ok (.int .i64 c) w := fun _ _ _ _ => by kernel_rfl
 obtain ⟨⟨qk, qb, qn⟩, hqq⟩ := hV.at hkl
 obtain ⟨e1, e2⟩ := v_name (b := ⟨#[116, 111, 107]⟩) hV hqq hT.w0
 dsimp only at e1 e2
 obtain rfl : (1 : Int) = qk := e1.symm
 obtain rfl : ⟨#[116, 111, 107]⟩ = qb := e2.symm
 obtain ⟨ii, hi0, hi1, hi2, hi3⟩ := infoInt
 have HLI := Lib.hid hli
 have HX0 := Lib.hid h0
 have HTA := Lib.hid (And.intro hT (And.intro hsz h5))
 have HQ := Lib.hid hqq
 clear hli h0 hT hsz h5 hqq e1 e2
 go_enter Tryz.func23, Tryz.ntmps23
 go_wp2_with fail
 refine (peekP_any p k 0 U wv tv rv (.slice o5 lt.length c5) ri ((1 : Int), ⟨#[116, 111, 107]⟩, qn) _ HLI.out.x HQ.out).mono ?_
 rintro x w1 ⟨rfl, hb1⟩
 dsimp only [wdv]
 have H1 := Lib.hid (HLI.out.ch hp0 (Ch.of hb1) (HLI.out.x.moved hb1) (Nat.le_refl _))
 clear hb1
 go_wp2_with fail
 refine (kind_any 5 _).mono ?_
 rintro x wt2 ⟨b12, rfl, hbx, hbt⟩
 have HY2 := Lib.hid (And.intro (H1.out.x.moved hbt) (And.intro hbx hbt))
 clear hbx hbt
 go_wp2_with fail
 refine (pskipK p k 0 U wv tv rv (.slice o5 lt.length c5) ri 5 b12 ((1 : Int), ⟨#[116, 111, 107]⟩, qn) _ (by decide) HY2.out.1 HQ.out HY2.out.2.1).mono ?_
 rintro x w2 ⟨rfl, hc2, hx2⟩
 replace hc2 := (Ch.of (p := p) HY2.out.2.2).trans hc2
 rw [show tsk 5 ((1 : Int), ⟨#[116, 111, 107]⟩, qn) = false from rfl] at hx2 ⊢
 rw [if_neg (by decide)] at hx2
 have H2 := Lib.hid (H1.out.ch hp0 hc2 hx2 (Nat.le_refl _))
 clear hc2 hx2
 go_wp2_with fail
 refine (text_any 1 ⟨#[116, 111, 107]⟩ _).mono ?_
 rintro x wt3 ⟨b13, b23, rfl, hbx, hbt⟩
 have HY3 := Lib.hid (And.intro (H2.out.x.moved hbt) (And.intro hbx hbt))
 clear hbx hbt
 go_wp2_with fail
 refine (pskipT p k 0 U wv tv rv (.slice o5 lt.length c5) ri 1 ⟨#[116, 111, 107]⟩ b13 b23 ((1 : Int), ⟨#[116, 111, 107]⟩, qn) _ (by decide) HY3.out.1 HQ.out HY3.out.2.1 ?_ ?_).mono ?_
 · intro e; have h1 := HY3.out.1.hh; rw [← e, HY3.out.2.1.h1] at h1; cases h1
 · intro e; have h1 := HY3.out.1.hh; rw [← e, HY3.out.2.1.h2] at h1; cases h1
 rintro x w3 ⟨rfl, hc3, hx3⟩
 replace hc3 := (Ch.of (p := p) HY3.out.2.2).trans hc3
 rw [show tst 1 ⟨#[116, 111, 107]⟩ ((1 : Int), ⟨#[116, 111, 107]⟩, qn) = true from by rw [tst_v hV HQ.out (by decide)]; exact decide_eq_true HTA.out.1.w0] at hx3 ⊢
 rw [if_pos rfl] at hx3
 have hli4 := H2.out.ch hp0 hc3 hx3 (Nat.le_succ _)
 clear hc3 hx3
 have hpz : p < w3.heap.size := lt_of_some hli4.x.hh
 have hw09 : w0.heap.size ≤ w3.heap.size := hli4.c.size
 obtain ⟨⟨c0, c1, c2, c3, c4, c5', c6⟩, f0, f1, f2, f3, f4, f5, f6⟩ := cells7_of hli4.x.hh
 have H4 := Lib.hid hli4
 have hpn : ¬ p = w3.heap.size := by omega
 have hpn' : ¬ w3.heap.size = p := by omega
 clear hli4
 go_wp2_with (at_builtin; refine wpList_append_far _ rfl _ _ 31 rfl w0.heap.size 3 ii _ 1 8 Tryz.underlying31 hi0 hi1 hi2 hi3 rfl (by decide) (.slice o5 lt.length c5) lt.length (lt.map (Value.int .i64)) rfl (by repeat (first | exact H4.out.it | refine World.ownsRow.alloc ?_ _ | refine owns_drew ?_)) _ 1 _ rfl (by exact afrow_new rfl (by simp)) rfl (by simp [Value.oneCell']) (by unfold maxLen; omega) (by omega) (by simp; omega) ?_; intro v9 w9 hown9 hg9 hf9 hb9; obtain ⟨o9, c9, rfl⟩ := owns_slice hown9; have hp9 := (hb9.block p hp0).trans (bel_get (by repeat (first | exact Below.refl _ _ | refine Below.drew ?_ | refine bel_new ?_ _)) H4.out.x.hh); obtain ⟨⟨z0, z1, z2, z3, z4, z5, z6⟩, y0, y1, y2, y3, y4, y5, y6⟩ := cells7_of hp9)
 have hpu := LI.pushA HX0.out H4.out (q := (qn : Int)) (by repeat (first | exact Below.refl _ _ | refine Below.drew ?_ | refine bel_new ?_ _)) hown9 hg9 hf9 hb9 (by omega)
 have H5 := Lib.hid hpu
 clear hpu hown9 hg9 hf9 hb9 hp9 z0 z1 z2 z3 z4 z5 z6 y0 y1 y2 y3 y4 y5 y6 c0 c1 c2 c3 c4 c5' c6 f0 f1 f2 f3 f4 f5 f6
 refine (ptoken_any p k k0 d0 U V hV wv tv rv _ ri tv0 rv0 ti0 ri0 pst psr _ lr t tx w0 _ HX0.out H5.out HTA.out.1 HTA.out.2.1).mono ?_
 rintro x w6 ⟨rfl, tv', a, b, hli6⟩
 obtain ⟨⟨ek, eb, en⟩, hq6⟩ := hV.at hli6.x.le
 obtain ⟨e1, e2⟩ := v_name (b := ⟨#[]⟩) hV hq6 HTA.out.2.2
 dsimp only at e1 e2
 obtain rfl : (5 : Int) = ek := e1.symm
 have H6 := Lib.hid hli6
 have HQ6 := Lib.hid hq6
 clear hli6 hq6 e1 e2
 go_wp2_with fail
 refine (peekP_any p (k + 6) 0 U wv tv' rv (.slice o9 (lt.length + 1) c9) ri ((5 : Int), eb, en) _ H6.out.x HQ6.out).mono ?_
 rintro x w7 ⟨rfl, hb7⟩
 dsimp only [wdv]
 have H7 := Lib.hid (H6.out.ch hp0 (Ch.of hb7) (H6.out.x.moved hb7) (Nat.le_refl _))
 clear hb7
 go_wp2_with fail
 refine (kind_any 5 _).mono ?_
 rintro x wt8 ⟨b18, rfl, hbx, hbt⟩
 have HT8 := Lib.hid (And.intro (H7.out.x.moved hbt) (And.intro hbx hbt))
 clear hbx hbt
 go_wp2_with fail
 refine (ptakeK p (k + 6) 0 U wv tv' rv (.slice o9 (lt.length + 1) c9) ri 5 b18 ((5 : Int), eb, en) _ (by decide) HT8.out.1 HQ6.out HT8.out.2.1 (show tsk 5 ((5 : Int), eb, en) = true from rfl)).mono ?_
 rintro x w8 ⟨rfl, hc8, hx8⟩
 replace hc8 := (Ch.of (p := p) HT8.out.2.2).trans hc8
 have hli8 := H7.out.ch hp0 hc8 hx8 (Nat.le_succ _)
 clear hc8 hx8
 go_wp2_with fail
 go_end0
 exact ⟨rfl, _, _, _, _, _, hli8⟩
theorem pline_rule (p k k0 d0 : Nat) (U : List Uw) (V : Pm.Ws) (hV : VOk V U) (wv tv rv ti ri : Value) (tv0 rv0 ti0 ri0 : Value) (pst : List (TK × Value × Value)) (psr : List (RU × Value)) (lt lr : List Int) (t : RU) (k2 : Nat) (w0 w : World) (h0 : PI w0 p U k0 d0 wv tv0 rv0 ti0 ri0) (hli : LI w0 w p U k wv tv rv ti ri pst psr lt lr) (hT : Pm.RuAt V k t k2) (h5 : V[k2]? = some (5, [])) :
 Calls Tryz.prog 23 #[.pointer (some ⟨p, 0, none⟩)] w fun x w' => x = .returned (.tuple #[]) ∧ ∃ rv' ri' a n, LI w0 w' p U (k2 + 1) wv tv rv' ti ri' pst (psr ++ [(t, a)]) lt (lr ++ [n]) := by
 have hplt := hli.x.lt
 have hp0 := h0.lt
 have hkl := hli.x.le
 have hsm := hli.x.small
 have hn3 := hli.n4
 have hw00 := hli.c.size
 obtain ⟨o5, c5, hv5⟩ := owns_slice hli.ir
 subst hv5
 have hfd0 : ∀ (a c : Int) (b : ByteArray) (w : World), (Instr.field 72 (.agg #[.int .i64 a, .string b, .int .i64 c]) 0).run Tryz.prog w = .ok (.int .i64 a) w := fun _ _ _ _ => by kernel_rfl
 have hfd2 : ∀ (a c : Int) (b : ByteArray) (w : World), (Instr.field 72 (.agg #[.int .i64 a, .string b, .int .i64 c]) 2).run Tryz.prog w = .ok (.int .i64 c) w := fun _ _ _ _ => by kernel_rfl
 obtain ⟨⟨qk, qb, qn⟩, hqq⟩ := hV.at hkl
 obtain ⟨e1, e2⟩ := v_name (b := ⟨#[114, 117, 108, 101]⟩) hV hqq hT.w0
 dsimp only at e1 e2
 obtain rfl : (1 : Int) = qk := e1.symm
 obtain rfl : ⟨#[114, 117, 108, 101]⟩ = qb := e2.symm
 obtain ⟨ii, hi0, hi1, hi2, hi3⟩ := infoInt
 have HLI := Lib.hid hli
 have HX0 := Lib.hid h0
 have HTA := Lib.hid (And.intro hT h5)
 have HQ := Lib.hid hqq
 clear hli h0 hT h5 hqq e1 e2
 go_enter Tryz.func23, Tryz.ntmps23
 go_wp2_with fail
 refine (peekP_any p k 0 U wv tv rv ti (.slice o5 lr.length c5) ((1 : Int), ⟨#[114, 117, 108, 101]⟩, qn) _ HLI.out.x HQ.out).mono ?_
 rintro x w1 ⟨rfl, hb1⟩
 dsimp only [wdv]
 have H1 := Lib.hid (HLI.out.ch hp0 (Ch.of hb1) (HLI.out.x.moved hb1) (Nat.le_refl _))
 clear hb1
 go_wp2_with fail
 refine (kind_any 5 _).mono ?_
 rintro x wt2 ⟨b12, rfl, hbx, hbt⟩
 have HY2 := Lib.hid (And.intro (H1.out.x.moved hbt) (And.intro hbx hbt))
 clear hbx hbt
 go_wp2_with fail
 refine (pskipK p k 0 U wv tv rv ti (.slice o5 lr.length c5) 5 b12 ((1 : Int), ⟨#[114, 117, 108, 101]⟩, qn) _ (by decide) HY2.out.1 HQ.out HY2.out.2.1).mono ?_
 rintro x w2 ⟨rfl, hc2, hx2⟩
 replace hc2 := (Ch.of (p := p) HY2.out.2.2).trans hc2
 rw [show tsk 5 ((1 : Int), ⟨#[114, 117, 108, 101]⟩, qn) = false from rfl] at hx2 ⊢
 rw [if_neg (by decide)] at hx2
 have H2 := Lib.hid (H1.out.ch hp0 hc2 hx2 (Nat.le_refl _))
 clear hc2 hx2
 go_wp2_with fail
 refine (text_any 1 ⟨#[116, 111, 107]⟩ _).mono ?_
 rintro x wt3 ⟨b13, b23, rfl, hbx, hbt⟩
 have HY3 := Lib.hid (And.intro (H2.out.x.moved hbt) (And.intro hbx hbt))
 clear hbx hbt
 go_wp2_with fail
 refine (pskipT p k 0 U wv tv rv ti (.slice o5 lr.length c5) 1 ⟨#[116, 111, 107]⟩ b13 b23 ((1 : Int), ⟨#[114, 117, 108, 101]⟩, qn) _ (by decide) HY3.out.1 HQ.out HY3.out.2.1 ?_ ?_).mono ?_
 · intro e; have h1 := HY3.out.1.hh; rw [← e, HY3.out.2.1.h1] at h1; cases h1
 · intro e; have h1 := HY3.out.1.hh; rw [← e, HY3.out.2.1.h2] at h1; cases h1
 rintro x w3 ⟨rfl, hc3, hx3⟩
 replace hc3 := (Ch.of (p := p) HY3.out.2.2).trans hc3
 rw [show tst 1 ⟨#[116, 111, 107]⟩ ((1 : Int), ⟨#[114, 117, 108, 101]⟩, qn) = false from by rw [tst_v hV HQ.out (by decide)]; exact decide_eq_false (fun e => by rw [HTA.out.1.w0] at e; revert e; decide)] at hx3 ⊢
 rw [if_neg (by decide)] at hx3
 have H3 := Lib.hid (H2.out.ch hp0 hc3 hx3 (Nat.le_refl _))
 clear hc3 hx3
 go_wp2_with fail
 refine (text_any 1 ⟨#[114, 117, 108, 101]⟩ _).mono ?_
 rintro x wt4 ⟨b14, b24, rfl, hbx, hbt⟩
 have HT4 := Lib.hid (And.intro (H3.out.x.moved hbt) (And.intro hbx hbt))
 clear hbx hbt
 go_wp2_with fail
 refine (ptakeT p k 0 U wv tv rv ti (.slice o5 lr.length c5) 1 ⟨#[114, 117, 108, 101]⟩ b14 b24 ((1 : Int), ⟨#[114, 117, 108, 101]⟩, qn) _ (by decide) HT4.out.1 HQ.out HT4.out.2.1 ?_ ?_ (show tst 1 ⟨#[114, 117, 108, 101]⟩ ((1 : Int), ⟨#[114, 117, 108, 101]⟩, qn) = true from by rw [tst_v hV HQ.out (by decide)]; exact decide_eq_true HTA.out.1.w0)).mono ?_
 · intro e; have h1 := HT4.out.1.hh; rw [← e, HT4.out.2.1.h1] at h1; cases h1
 · intro e; have h1 := HT4.out.1.hh; rw [← e, HT4.out.2.1.h2] at h1; cases h1
 rintro x w4 ⟨rfl, hc4, hx4⟩
 replace hc4 := (Ch.of (p := p) HT4.out.2.2).trans hc4
 have hli4 := H3.out.ch hp0 hc4 hx4 (Nat.le_succ _)
 clear hc4 hx4
 have hpz : p < w4.heap.size := lt_of_some hli4.x.hh
 have hw09 : w0.heap.size ≤ w4.heap.size := hli4.c.size
 obtain ⟨⟨c0, c1, c2, c3, c4, c5', c6⟩, f0, f1, f2, f3, f4, f5, f6⟩ := cells7_of hli4.x.hh
 have H4 := Lib.hid hli4
 have hpn : ¬ p = w4.heap.size := by omega
 have hpn' : ¬ w4.heap.size = p := by omega
 clear hli4
 go_wp2_with (at_builtin; refine wpList_append_far _ rfl _ _ 31 rfl w0.heap.size 3 ii _ 1 8 Tryz.underlying31 hi0 hi1 hi2 hi3 rfl (by decide) (.slice o5 lr.length c5) lr.length (lr.map (Value.int .i64)) rfl (by repeat (first | exact H4.out.ir | refine World.ownsRow.alloc ?_ _ | refine owns_drew ?_)) _ 1 _ rfl (by exact afrow_new rfl (by simp)) rfl (by simp [Value.oneCell']) (by unfold maxLen; omega) (by omega) (by simp; omega) ?_; intro v9 w9 hown9 hg9 hf9 hb9; obtain ⟨o9, c9, rfl⟩ := owns_slice hown9; have hp9 := (hb9.block p hp0).trans (bel_get (by repeat (first | exact Below.refl _ _ | refine Below.drew ?_ | refine bel_new ?_ _)) H4.out.x.hh); obtain ⟨⟨z0, z1, z2, z3, z4, z5, z6⟩, y0, y1, y2, y3, y4, y5, y6⟩ := cells7_of hp9)
 have hpu := LI.pushB HX0.out H4.out (q := (qn : Int)) (by repeat (first | exact Below.refl _ _ | refine Below.drew ?_ | refine bel_new ?_ _)) hown9 hg9 hf9 hb9 (by omega)
 have H5 := Lib.hid hpu
 clear hpu hown9 hg9 hf9 hb9 hp9 z0 z1 z2 z3 z4 z5 z6 y0 y1 y2 y3 y4 y5 y6 c0 c1 c2 c3 c4 c5' c6 f0 f1 f2 f3 f4 f5 f6
 go_wp2_with fail
 refine (prule_any p k k2 k0 d0 U V hV wv tv rv ti _ tv0 rv0 ti0 ri0 pst psr lt _ t w0 _ HX0.out H5.out HTA.out.1).mono ?_
 rintro x w6 ⟨rfl, rv', a, hli6⟩
 obtain ⟨⟨ek, eb, en⟩, hq6⟩ := hV.at hli6.x.le
 obtain ⟨e1, e2⟩ := v_name (b := ⟨#[]⟩) hV hq6 HTA.out.2
 dsimp only at e1 e2
 obtain rfl : (5 : Int) = ek := e1.symm
 have H6 := Lib.hid hli6
 have HQ6 := Lib.hid hq6
 clear hli6 hq6 e1 e2
 go_wp2_with fail
 refine (peekP_any p k2 0 U wv tv rv' ti (.slice o9 (lr.length + 1) c9) ((5 : Int), eb, en) _ H6.out.x HQ6.out).mono ?_
 rintro x w7 ⟨rfl, hb7⟩
 dsimp only [wdv]
 have H7 := Lib.hid (H6.out.ch hp0 (Ch.of hb7) (H6.out.x.moved hb7) (Nat.le_refl _))
 clear hb7
 go_wp2_with fail
 refine (kind_any 5 _).mono ?_
 rintro x wt8 ⟨b18, rfl, hbx, hbt⟩
 have HT8 := Lib.hid (And.intro (H7.out.x.moved hbt) (And.intro hbx hbt))
 clear hbx hbt
 go_wp2_with fail
 refine (ptakeK p k2 0 U wv tv rv' ti (.slice o9 (lr.length + 1) c9) 5 b18 ((5 : Int), eb, en) _ (by decide) HT8.out.1 HQ6.out HT8.out.2.1 (show tsk 5 ((5 : Int), eb, en) = true from rfl)).mono ?_
 rintro x w8 ⟨rfl, hc8, hx8⟩
 replace hc8 := (Ch.of (p := p) HT8.out.2.2).trans hc8
 have hli8 := H7.out.ch hp0 hc8 hx8 (Nat.le_succ _)
 clear hc8 hx8
 go_wp2_with fail
 go_end0
 exact ⟨rfl, _, _, _, _, hli8⟩
end Go.Proofs.YtfkmajjgkdjncaaGreatDoor

set_option maxHeartbeats 4000000
set_option maxRecDepth 100000
namespace Go.Proofs.YtfkmajjgkdjncaaGreatDoor
open Go.RowKit De Wd
theorem pcheck_any (p k : Nat) (U : List Uw) (wv tv rv ti ri : Value) (pst : List (TK × Value × Value)) (psr : List (RU × Value)) (lt lr : List Int) (w0 w : World) (hp0 : p < w0.heap.size) (hli : LI w0 w p U k wv tv rv ti ri pst psr lt lr)
 (hTl : pst.length ≤ 1000) (hRl : psr.length ≤ 1000) (hTf : TFit (pst.map (·.1))) (hRf : RFit (psr.map (·.1))) (hc : (chkE (pst.map (·.1)) (psr.map (·.1))).1 = 0) :
 Calls Tryz.prog 24 #[.pointer (some ⟨p, 0, none⟩)] w fun x w' => x = .returned (.tuple #[]) ∧ LI w0 w' p U k wv tv rv ti ri pst psr lt lr := by
 have HG := Lib.hid (gchk_any (pst.map (·.1)) (psr.map (·.1)) tv rv w hli.tk.are hli.ru.are (by simpa using hTl) (by simpa using hRl) hTf hRf)
 obtain ⟨⟨c0, c1, c2, c3, c4, c5, c6⟩, f0, f1, f2, f3, f4, f5, f6⟩ := cells7_of hli.x.hh
 have HLI := Lib.hid hli
 have HC := Lib.hid hc
 clear hli hc hTf hRf
 go_enter Tryz.func24, Tryz.ntmps24
 go_wp2_with fail
 refine HG.out.mono ?_
 rintro x w2 ⟨rfl, hb2⟩
 rw [HC.out]
 have hli2 := HLI.out.ch hp0 (Ch.of hb2) (HLI.out.x.moved hb2) (Nat.le_refl _)
 have H2 := Lib.hid hli2
 clear hb2 hli2
 go_wp2_with fail
 exact bodyPost_ret (results_none rfl _ _ _) rfl ⟨rfl, H2.out⟩
end Go.Proofs.YtfkmajjgkdjncaaGreatDoor

set_option maxHeartbeats 4000000
set_option maxRecDepth 1000000
namespace Go.Proofs.YtfkmajjgkdjncaaGreatDoor
open Go.RowKit De Wd
def usW (s : ByteArray) (W : List (Nat × Wt)) : List Uw := W.map (fun p => (p.2.k, s.extract (p.1 + p.2.o) (p.1 + p.2.o + p.2.n), if p.2.k = 0 then 0 else p.1)) ++ [(0, ⟨#[]⟩, s.size)]
theorem usW_len (s : ByteArray) (W : List (Nat × Wt)) : (usW s W).length = W.length + 1 := by simp [usW]
theorem usW_flat (s : ByteArray) (W : List (Nat × Wt)) : (usW s W).flatMap u3 = wcs s W ++ [.int .i64 0, .string ⟨#[]⟩, .int .i64 s.size] := by
 unfold usW wcs
 rw [List.flatMap_append, List.flatMap_map]
 congr 1
 congr 1
 funext p
 simp only [u3, wval]
 split <;> simp
theorem usW_ok {s : ByteArray} {W : List (Nat × Wt)} (hp : ∀ v ∈ W.map (vw (sb s)), v.1 ≠ 0) : VOk (W.map (vw (sb s))) (usW s W) := by
 refine ⟨by simp [usW], fun k q hq hk => ?_, fun q hq => ?_, fun k v hv => hp v (List.mem_of_getElem? hv)⟩
 · unfold usW at hq
   rw [List.getElem?_append_left (by simpa using hk), List.getElem?_map] at hq
   rw [List.getElem?_map]
   simp only [List.length_map] at hk
   rw [List.getElem?_eq_getElem hk] at hq ⊢
   simp only [Option.map_some, Option.some.injEq] at hq ⊢
   subst hq
   unfold vw
   rw [sb_extract']
   simp only [Prod.mk.injEq, true_and]
   congr 1
   omega
 · unfold usW at hq
   rw [List.getElem?_append_right (by simp)] at hq
   simp at hq
   rw [← hq]
structure HoldG (w w' : World) (a b : Value) : Prop where
 h0 : w'.heap[w.heap.size]? = some (.cells #[a, b] 26 (0, 0))
 h1 : w'.heap[w.heap.size + 1]? = some (.cells #[.int .i64 0] 3 (0, 0))
 h2 : w'.heap[w.heap.size + 1 + 1]? = some (.cells #[.int .i64 0] 3 (0, 0))
 bel : Below w.heap.size w w'
theorem HoldG.below {w a b : World} {x y : Value} (h : HoldG w a x y) (hs : w.heap.size + 1 + 1 < a.heap.size) (hb : Below a.heap.size a b) : HoldG w b x y :=
 ⟨by rw [hb.block _ (by omega)]; exact h.h0, by rw [hb.block _ (by omega)]; exact h.h1, by rw [hb.block _ (by omega)]; exact h.h2, h.bel.trans (hb.mono h.bel.size)⟩
theorem HoldG.ch {w a b : World} {x y : Value} {p : Nat} (h : HoldG w a x y) (hs : w.heap.size + 1 + 1 < a.heap.size) (hp : w.heap.size + 1 + 1 < p) (hb : Ch a b p) : HoldG w b x y :=
 ⟨by rw [hb.block _ (by omega) (by omega)]; exact h.h0, by rw [hb.block _ (by omega) (by omega)]; exact h.h1, by rw [hb.block _ (by omega) (by omega)]; exact h.h2, h.bel.trans ⟨hb.os, hb.tape, hb.output, hb.size, fun k hk => hb.block k (by have := h.bel.size; omega) (by omega)⟩⟩
theorem HoldG.set {w a : World} {x y x' y' : Value} (h : HoldG w a x y) : HoldG w ((a.setCell ⟨w.heap.size, 0, none⟩ x').setCell ⟨w.heap.size, 1, none⟩ y') x' y' := by
 have h0 := h.h0
 refine ⟨by simp [World.setCell, Array.getElem?_modify, h0], ?_, ?_, (h.bel.setCell (Nat.le_refl _) _).setCell (Nat.le_refl _) _⟩
 · rw [Below.heap_setCell _ _ _ _ (by simp), Below.heap_setCell _ _ _ _ (by simp)]; exact h.h1
 · rw [Below.heap_setCell _ _ _ _ (by simp; omega), Below.heap_setCell _ _ _ _ (by simp; omega)]; exact h.h2
theorem HoldG.zero {w a : World} {x y : Value} (h : HoldG w a x y) : HoldG w ((a.setCell ⟨w.heap.size + 1, 0, none⟩ (.int .i64 0)).setCell ⟨w.heap.size + 1 + 1, 0, none⟩ (.int .i64 0)) x y := by
 have h1 := h.h1
 have h2 := h.h2
 refine ⟨?_, ?_, ?_, (h.bel.setCell (by simp) _).setCell (by simp <;> omega) _⟩
 · rw [Below.heap_setCell _ _ _ _ (by simp; omega), Below.heap_setCell _ _ _ _ (by simp)]; exact h.h0
 · rw [Below.heap_setCell _ _ _ _ (by simp)]; exact set1 h1 _
 · refine set1 (a := .int .i64 0) ?_ _
   rw [Below.heap_setCell _ _ _ _ (by simp)]; exact h2
def SrOk (T : List TK) (R : List RU) (w : World) (x : Ending) (w' : World) : Prop :=
 ∃ tv rv, x = .returned (.tuple #[.agg #[tv, rv], .int .i64 0, .int .i64 0]) ∧ TksAre w' tv T ∧ RusAre w' rv R ∧ Below w.heap.size w w'
theorem scatch_idle (p q r : Nat) (w : World) :
 CallsD Tryz.prog 20 #[.pointer (some ⟨p, 0, none⟩), .pointer (some ⟨q, 0, none⟩), .pointer (some ⟨r, 0, none⟩)] .returning w fun e u' w' =>
  e = .returned (.tuple #[]) ∧ u' = .returning ∧ w' = w.alloc (.cells #[.int .i64 0, .int .i64 0] 65) := by
 have ta : ∀ w, (Instr.typeAssert .nilIface 20 65 true).run Tryz.prog w = .ok (.tuple #[.agg #[.int .i64 0, .int .i64 0], .bool false]) w := fun w => by kernel_rfl
 refine callsD_of_wpS Tryz.func20 rfl fun c₀ cs hu => ?_
 simp only [Tryz.ntmps20, List.size_toArray, List.length_cons, List.length_nil, Nat.reduceAdd, Nat.reduceSub, Array.replicate_succ, Array.replicate_zero, List.push_toArray, List.append_toArray, List.nil_append, List.cons_append]
 have hrec : recov (c₀ :: cs) = (.nilIface, c₀ :: cs) := by
  simp [recov, recoverD, hu]
 apply wpS_seq
 refine wpS_region_recover rfl rfl ?_
 rw [hrec]
 have HU := Lib.hid hu
 clear hrec hu
 go_wp2
 simp only [Exit.thenS]
 refine wpS_of_wp (wp_mono (Q := fun x a w' => x = .normal ∧ a.defers = [] ∧ w' = w.alloc (.cells #[.int .i64 0, .int .i64 0] 65)) ?_ ?_)
 · go_wp2
 · rintro e a w' ⟨rfl, hdf, rfl⟩
   exact ⟨hdf, .returning, by have := HU.out; cases c₀; simp_all, .tuple #[], results_none rfl _ _ _, rfl, rfl, rfl⟩
theorem palts_le {V : Pm.Ws} {d k k' : Nat} {e : PT} (h : Pm.PAlts V d k e k') : k ≤ k' := by
 refine Pm.PAlts.rec (V := V)
  (motive_1 := fun d k e k' _ => k ≤ k') (motive_2 := fun d a k e k' _ => k ≤ k') (motive_3 := fun d k e k' _ => k ≤ k') (motive_4 := fun d a k e k' _ => k ≤ k')
  (motive_5 := fun d k e k' _ => k ≤ k') (motive_6 := fun a k e k' _ => k ≤ k') (motive_7 := fun d k e k' _ => k ≤ k') ?_ ?_ ?_ ?_ ?_ ?_ ?_ ?_ ?_ ?_ ?_ ?_ ?_ ?_ h
 all_goals intros
 all_goals first | omega | (have h1 := nms_lt ‹_›; omega) | skip
 all_goals (rename_i n _ _ _ n2 _ _; have h1 := nms_lt n; have h2 := nms_lt n2; omega)
theorem stp_le {V : Pm.Ws} {j j1 : Nat} {s : ST} (h : Pm.Stp V j s j1) : j ≤ j1 := by
 rcases stp_inv h with ⟨-, -, h9⟩ | ⟨-, j2, -, h8, -, h9⟩
 · exact palts_le h9
 · have := palts_le h9
   have := nms_lt h8
   omega
theorem HoldG.below3 {w a b : World} {x y : Value} {B : Nat} (h : HoldG w a x y) (hB : w.heap.size + 1 + 1 < B) (hb : Below B a b) : HoldG w b x y :=
 ⟨by rw [hb.block _ (by omega)]; exact h.h0, by rw [hb.block _ (by omega)]; exact h.h1, by rw [hb.block _ (by omega)]; exact h.h2, h.bel.trans (bel_low (by omega) hb)⟩
theorem ruAt_lt {V : Pm.Ws} {k k1 : Nat} {r : RU} (h : Pm.RuAt V k r k1) : k < k1 := by
 have hl : ∀ {j j1 : Nat} {l : List ST}, Pm.Stps V j l j1 → j ≤ j1 := fun {j j1 l} h => by
  induction h with
  | last h _ => exact stp_le h
  | more h _ _ ih => exact Nat.le_trans (stp_le h) ih
 by_cases hf : r.free = true
 · have := hl (h.f1 hf).2; omega
 · have := hl (h.f0 (Bool.eq_false_iff.2 hf)).2; omega
theorem cells2_of' {w : World} {p : Nat} {a b : Value} {t : TypeId} (h : w.heap[p]? = some (.cells #[a, b] t (0, 0))) : (w.cell? ⟨p, 0, none⟩ = some a ∧ w.cell? ⟨p, 1, none⟩ = some b) ∧ w.frozen? ⟨p, 0, none⟩ = false ∧ w.frozen? ⟨p, 1, none⟩ = false := by
 simp [World.cell?, World.frozen?, h]
theorem LI.start {w : World} {p : Nat} {U : List Uw} {wv : Value} (h : PI w p U 0 0 wv (.slice none 0 0) (.slice none 0 0) (.slice none 0 0) (.slice none 0 0)) : LI w w p U 0 wv (.slice none 0 0) (.slice none 0 0) (.slice none 0 0) (.slice none 0 0) [] [] [] [] := by
 have ha : Apart (.slice none 0 0) (.slice none 0 0) := fun k h1 _ => by cases h1
 exact ⟨h, Ch.refl _ _, Own.nil, Own.nil, World.ownsRow_nil _ _ _ _, World.ownsRow_nil _ _ _ _, ha, ha, ha, ha, ha, ha, Nat.le_refl _, Nat.le_refl _, Nat.le_refl _, Nat.le_refl _⟩
theorem source_ok (s : ByteArray) (W : List (Nat × Wt)) (T : List TK) (R : List RU) (w : World) (hs : s.size ≤ 100000) (hr : rs (sb s) = .ok W) (hp : ∀ v ∈ W.map (vw (sb s)), v.1 ≠ 0) (TA : Nat → TK → Prop) (hL : Pm.Lns (W.map (vw (sb s))) TA 0 T R) (hWl : W.length ≤ 100000)
 (hsz : ∀ k t, TA k t → ∃ tx, Pm.TkA (W.map (vw (sb s))) k t tx ∧ ∀ w, Calls Tryz.prog 14 #[.string tx] w (ReOk t.re w)) (hTl : T.length ≤ 1000) (hRl : R.length ≤ 1000) (hTf : TFit T) (hRf : RFit R) (hc : (chkE T R).1 = 0) :
 Calls Tryz.prog 10 #[.string s] w (SrOk T R w) := by
 have hmf : ∀ (fn : Fn) (first cap : Array Value) (w : World), (Instr.makeFunc fn first cap).run Tryz.prog w = .ok (.func fn first cap) w := fun _ _ _ _ => rfl
 have hfd0 : ∀ (a c : Int) (b : ByteArray) (w : World), (Instr.field 72 (.agg #[.int .i64 a, .string b, .int .i64 c]) 0).run Tryz.prog w = .ok (.int .i64 a) w := fun _ _ _ _ => by kernel_rfl
 have hV := usW_ok hp
 obtain ⟨V, hVd⟩ : ∃ V, V = W.map (vw (sb s)) := ⟨_, rfl⟩
 have hUl := usW_len s W
 have hUf := usW_flat s W
 obtain ⟨U, hU⟩ : ∃ U, U = usW s W := ⟨_, rfl⟩
 rw [← hVd, ← hU] at hV
 rw [← hVd] at hL hp
 simp only [← hVd] at hsz
 rw [← hU] at hUl hUf
 have hVl : V.length = W.length := by rw [hVd]; simp
 obtain ⟨iw, hi0, hi1, hi2, hi3⟩ := infoWord
 obtain ⟨W3, hW3⟩ : ∃ W3, W3 = (((w.alloc (.cells #[.slice none 0 0, .slice none 0 0] 26)).alloc (.cells #[.int .i64 0] 3)).alloc (.cells #[.int .i64 0] 3)) := ⟨_, rfl⟩
 obtain ⟨g0, g1, g2, g3, g4⟩ := threeW w _ _ _ W3 hW3
 have hall := wordAll_any s W3 hs
 unfold AllPost at hall
 rw [hr] at hall
 have HA := Lib.hid hall
 have HL0 := Lib.hid hL
 have HU := Lib.hid (And.intro hUf (And.intro hV hp))
 have HH := Lib.hid (And.intro hsz (And.intro hTf (And.intro hRf hc)))
 have hsl : (s.size : Int) ≤ 9223372036854775807 := by omega
 have HG := Lib.hid (And.intro hW3 (And.intro g0 (And.intro g1 (And.intro g2 (And.intro g3 g4)))))
 clear hW3 g0 g1 g2 g3 g4 hall hL hr hUf hV hp hsz hTf hRf hc hVd hU
 go_enter_defers Tryz.func10, Tryz.ntmps10
 go_wp2_with fail
 obtain ⟨hW3, g0, g1, g2, g3, g4⟩ := HG.out
 rw [← hW3]
 refine HA.out.mono ?_
 rintro x w4 ⟨uv, rfl, hown4, hb4⟩
 have hold4 : HoldG w w4 (.slice none 0 0) (.slice none 0 0) := HoldG.below ⟨g0, g1, g2, g4⟩ (by omega) hb4
 have hz4 := hb4.size
 obtain ⟨ou, cu, rfl⟩ := owns_slice hown4
 obtain ⟨d1, f1⟩ := cell1_of hold4.h1
 obtain ⟨d2, f2⟩ := cell1_of hold4.h2
 obtain ⟨W4, hW4⟩ : ∃ W4, W4 = ((w4.setCell ⟨w.heap.size + 1, 0, none⟩ (.int .i64 0)).setCell ⟨w.heap.size + 1 + 1, 0, none⟩ (.int .i64 0)) := ⟨_, rfl⟩
 have hh4 : HoldG w W4 (.slice none 0 0) (.slice none 0 0) := by rw [hW4]; exact hold4.zero
 have hown : W4.ownsRow W3.heap.size 72 3 (.slice ou W.length cu) W.length (wcs s W) := by
  rw [hW4]; exact owns_setOther (owns_setOther hown4 (by omega)) (by omega)
 have hz5 : W3.heap.size ≤ W4.heap.size := by rw [hW4]; simpa [World.setCell] using hz4
 have H4 := Lib.hid (And.intro hh4 (And.intro hown hW4))
 have h3s : W3.heap.size = w.heap.size + 1 + 1 + 1 := g3
 clear hh4 hown hW4 hold4 hown4 hb4 hz4 hW3 g0 g1 g2 g3 g4 HG
 have hre : (W4 = ((w4.setCell ⟨w.heap.size + 1, 0, none⟩ (.int .i64 0)).setCell ⟨w.heap.size + 1 + 1, 0, none⟩ (.int .i64 0))) := H4.out.2.2
 have HRE := Lib.hid hre
 clear hre
 obtain ⟨e1, e1f⟩ := cell1_of H4.out.1.h1
 have hW4s : w.heap.size + 1 + 1 + 1 ≤ W4.heap.size := by omega
 go_wp2_with (first | (with_reducible rw [← HRE.out]) | (at_builtin; refine wpList_append_far _ rfl _ _ 67 rfl W3.heap.size 72 iw _ 3 32 Tryz.underlying67 hi0 hi1 hi2 hi3 rfl (by decide) (.slice ou W.length cu) W.length (wcs s W) rfl (by repeat (first | exact H4.out.2.1 | refine World.ownsRow.alloc ?_ _ | refine owns_drew ?_)) _ 1 _ rfl (by exact afrow_new rfl (by simp)) rfl (by simp [Value.oneCell']) (by unfold maxLen; omega) (by omega) (by simp; omega) ?_; intro v5 w5 hown5 hg5 hf5 hb5; obtain ⟨o5, c5, rfl⟩ := owns_slice hown5))
 have hb45 : Below W3.heap.size W4 w5 := Below.trans (bel_low hz5 (bel_new (Below.refl _ _) _)) hb5
 have hh5 : HoldG w w5 (.slice none 0 0) (.slice none 0 0) := H4.out.1.below3 (by omega) hb45
 obtain ⟨W6, hW6⟩ : ∃ W6, W6 = w5.alloc (.cells #[.slice o5 (W.length + 1) c5, .int .i64 0, .int .i64 0, .slice none 0 0, .slice none 0 0, .slice none 0 0, .slice none 0 0] 74) := ⟨_, rfl⟩
 obtain ⟨p, hp⟩ : ∃ p, p = w5.heap.size := ⟨_, rfl⟩
 have hw5s : w.heap.size + 1 + 1 + 1 ≤ w5.heap.size := Nat.le_trans hW4s hb45.size
 have hpi : PI W6 p U 0 0 (.slice o5 (W.length + 1) c5) (.slice none 0 0) (.slice none 0 0) (.slice none 0 0) (.slice none 0 0) := by
  rw [hW6]
  refine ⟨by rw [hp]; exact heap_alloc_new w5 _, ?_, fun b off cap e => ?_, by omega, by omega, fun j q hq h0 => ?_⟩
  · rw [hUl, HU.out.1]
    exact (Row.owned hown5).below (bel_new (Below.refl _ _) _)
  · rw [hUl] at e
    simp only [Value.slice.injEq, true_and] at e
    obtain ⟨rfl, rfl⟩ := e
    have := (hown5.lt b rfl).2
    omega
  · have h1 := (List.getElem?_eq_some_iff.1 hq).1
    rcases Nat.lt_or_ge (j + 1) U.length with h2 | h2
    · exact h2
    · have : j = V.length := by omega
      subst this
      exact absurd (HU.out.2.1.fin q hq) h0
 have hh6 : HoldG w W6 (.slice none 0 0) (.slice none 0 0) := by rw [hW6]; exact hh5.below (by omega) (bel_new (Below.refl _ _) _)
 have hpW6 : p < W6.heap.size := hpi.lt
 have H6 := Lib.hid (And.intro hpi hh6)
 have HW6 := Lib.hid hW6
 have HP := Lib.hid hp
 have hps : w.heap.size + 1 + 1 < p := by omega
 clear hown5 hg5 hf5 hb5 hb45 hh5 hpi hh6 hW6 hp d1 f1 d2 f2 e1 e1f
 rw [← HW6.out]
 simp only [← HP.out]
 go_loopg [] (U.length) (fun g wx => ∃ (k : Nat) (tv rv ti ri : Value) (pst : List (TK × Value × Value)) (psr : List (RU × Value)) (lt lr : List Int) (Tr : List TK) (Rr : List RU), k + g = U.length ∧ LI W6 wx p U k (.slice o5 (W.length + 1) c5) tv rv ti ri pst psr lt lr ∧ T = pst.map (·.1) ++ Tr ∧ R = psr.map (·.1) ++ Rr ∧ Pm.Lns V TA k Tr Rr)
 case atStart => exact ⟨0, _, _, _, _, [], [], [], [], T, R, by omega, LI.start H6.out.1, by simp, by simp, HL0.out⟩
 case round =>
  obtain ⟨k, tv, rv, ti, ri, pst, psr, lt, lr, Tr, Rr, hkg, hli, hT, hR, hlns⟩ := hrel
  have hkl := hli.x.le
  obtain ⟨⟨qk, qb, qn⟩, hqq⟩ := HU.out.2.1.at hkl
  have HLI := Lib.hid hli
  have HQ := Lib.hid hqq
  have HTR := Lib.hid (And.intro hT hR)
  have hcase : (k = V.length ∧ Tr = [] ∧ Rr = [] ∧ qk = 0) ∨ (qk ≠ 0 ∧ ((∃ t m tx, Tr = t :: m ∧ Pm.TkA V k t tx ∧ (∀ w, Calls Tryz.prog 14 #[.string tx] w (ReOk t.re w)) ∧ V[k + 6]? = some (5, []) ∧ Pm.Lns V TA (k + 7) m Rr) ∨ (∃ r m k1, Rr = r :: m ∧ Pm.RuAt V k r k1 ∧ V[k1]? = some (5, []) ∧ Pm.Lns V TA (k1 + 1) Tr m) ∨ (V[k]? = some (5, []) ∧ Pm.Lns V TA (k + 1) Tr Rr))) := by
   cases hlns with
   | fin h => exact .inl ⟨h, rfl, rfl, HU.out.2.1.fin (qk, qb, qn) (by rw [← h]; exact hqq)⟩
   | nl h5 r =>
    obtain ⟨e1, -⟩ := v_name (b := ⟨#[]⟩) HU.out.2.1 hqq h5
    dsimp only at e1
    exact .inr ⟨by rw [e1]; decide, .inr (.inr ⟨h5, r⟩)⟩
   | tok h h5 r =>
    obtain ⟨tx, h, hre⟩ := HH.out.1 _ _ h
    obtain ⟨e1, -⟩ := v_name (b := ⟨#[116, 111, 107]⟩) HU.out.2.1 hqq h.w0
    dsimp only at e1
    exact .inr ⟨by rw [e1]; decide, .inl ⟨_, _, tx, rfl, h, hre, h5, r⟩⟩
   | rule h h5 q =>
    obtain ⟨e1, -⟩ := v_name (b := ⟨#[114, 117, 108, 101]⟩) HU.out.2.1 hqq h.w0
    dsimp only at e1
    exact .inr ⟨by rw [e1]; decide, .inr (.inl ⟨_, _, _, rfl, h, h5, q⟩)⟩
  clear hli hqq hT hR hlns
  rcases hcase with ⟨hkV, rfl, rfl, rfl⟩ | ⟨hq0, hl⟩
  · clear hkV
    go_wp2_with fail
    refine (peekP_any p k 0 U _ tv rv ti ri ((0 : Int), qb, qn) _ HLI.out.x HQ.out).mono ?_
    rintro x w7 ⟨rfl, hb7⟩
    dsimp only [wdv]
    have H7 := Lib.hid (HLI.out.ch hpW6 (Ch.of hb7) (HLI.out.x.moved hb7) (Nat.le_refl _))
    clear hb7
    go_wp2_with fail
    have hT : pst.map (·.1) = T := by rw [HTR.out.1]; simp
    have hR : psr.map (·.1) = R := by rw [HTR.out.2]; simp
    refine (pcheck_any p k U _ tv rv ti ri pst psr lt lr W6 _ hpW6 H7.out (by have := congrArg List.length hT; simp at this; omega) (by have := congrArg List.length hR; simp at this; omega) (by rw [hT]; exact HH.out.2.1) (by rw [hR]; exact HH.out.2.2.1) (by rw [hT, hR]; exact HH.out.2.2.2)).mono ?_
    rintro x w8 ⟨rfl, hli8⟩
    have hw68 : W6.heap.size ≤ w8.heap.size := hli8.c.size
    obtain ⟨ot, ct, htv⟩ := owns_slice hli8.tk.row
    obtain ⟨orr, cr, hrv⟩ := owns_slice hli8.ru.row
    subst htv hrv
    have hh8 : HoldG w w8 (.slice none 0 0) (.slice none 0 0) := H6.out.2.ch (p := p) (by omega) hps hli8.c
    obtain ⟨⟨c0, c1, c2, c3, c4, c5', c6⟩, f0, f1, f2, f3, f4, f5, f6⟩ := cells7_of hli8.x.hh
    obtain ⟨⟨d0, d0'⟩, g0, g0'⟩ := cells2_of' hh8.h0
    obtain ⟨d1, g1⟩ := cell1_of hh8.h1
    obtain ⟨d2, g2⟩ := cell1_of hh8.h2
    have n0 : ¬ p = w.heap.size := by omega
    have n1 : ¬ p = w.heap.size + 1 := by omega
    have n2 : ¬ p = w.heap.size + 1 + 1 := by omega
    have n3 : ¬ w.heap.size = p := by omega
    have n4 : ¬ w.heap.size + 1 = p := by omega
    have n5 : ¬ w.heap.size + 1 + 1 = p := by omega
    obtain ⟨W9, hW9⟩ : ∃ W9, W9 = (((w8.setCell ⟨w.heap.size, 0, none⟩ (.slice ot pst.length ct)).setCell ⟨w.heap.size, 1, none⟩ (.slice orr psr.length cr)).setCell ⟨w.heap.size + 1, 0, none⟩ (.int .i64 0)).setCell ⟨w.heap.size + 1 + 1, 0, none⟩ (.int .i64 0) := ⟨_, rfl⟩
    have hh9 : HoldG w W9 (.slice ot pst.length ct) (.slice orr psr.length cr) := by rw [hW9]; exact (hh8.set).zero
    have hag : Ag (fun j => p < j) w8 W9 := by
     rw [hW9]
     refine (((((Ag.refl _ _).setCell (fun h => ?_) _).setCell (fun h => ?_) _).setCell (fun h => ?_) _).setCell (fun h => ?_) _)
     · have h9 : p < w.heap.size := h; omega
     · have h9 : p < w.heap.size := h; omega
     · have h9 : p < w.heap.size + 1 := h; omega
     · have h9 : p < w.heap.size + 1 + 1 := h; omega
    have htk : TksAre W9 (.slice ot pst.length ct) T := by
     rw [← hT]
     refine TkO.are (Own.ag hli8.tk (hag.sub (fun j _ hj => ?_)))
     rcases hj with h1 | h1
     · exact h1.1
     · have := (hli8.tk.row.lt j h1).1; show p < j; omega
    have hru : RusAre W9 (.slice orr psr.length cr) R := by
     rw [← hR]
     refine RuO.are (Own.ag hli8.ru (hag.sub (fun j _ hj => ?_)))
     rcases hj with h1 | h1
     · exact h1.1
     · have := (hli8.ru.row.lt j h1).1; show p < j; omega
    have hz9 : w.heap.size + 1 + 1 < W9.heap.size := by rw [hW9]; simp [World.setCell]; omega
    have H9 := Lib.hid (And.intro hh9 (And.intro htk (And.intro hru hz9)))
    have HW9 := Lib.hid hW9
    clear hh9 htk hru hag hli8 hh8 hW9 hz9
    go_wp2_with fail
    rw [← HW9.out]
    clear c0 c1 c2 c3 c4 c5' c6 f0 f1 f2 f3 f4 f5 f6 d0 d0' g0 g0' d1 g1 d2 g2
    refine leaves_cons (f := 20) (args := #[.pointer (some ⟨w.heap.size, 0, none⟩), .pointer (some ⟨w.heap.size + 1, 0, none⟩), .pointer (some ⟨w.heap.size + 1 + 1, 0, none⟩)]) (by simp) (by simp [go_sem]) ?_
    refine (scatch_idle _ _ _ _).mono ?_
    rintro x u' w'' ⟨rfl, rfl, rfl⟩
    have hbf := bel_new (Below.refl W9.heap.size W9) (.cells #[.int .i64 0, .int .i64 0] 65)
    have hh10 := H9.out.1.below H9.out.2.2.2 hbf
    have htk10 := H9.out.2.1.moved hbf
    have hru10 := H9.out.2.2.1.moved hbf
    obtain ⟨W10, hW10⟩ : ∃ W10, W10 = W9.alloc (.cells #[.int .i64 0, .int .i64 0] 65) := ⟨_, rfl⟩
    rw [← hW10] at hh10 htk10 hru10 ⊢
    clear hW10 hbf
    obtain ⟨⟨d0, d0'⟩, g0, g0'⟩ := cells2_of' hh10.h0
    obtain ⟨d1, g1⟩ := cell1_of hh10.h1
    obtain ⟨d2, g2⟩ := cell1_of hh10.h2
    have HR : SrOk T R w (.returned (.tuple #[.agg #[.slice ot pst.length ct, .slice orr psr.length cr], .int .i64 0, .int .i64 0])) W10 := ⟨_, _, rfl, htk10, hru10, hh10.bel⟩
    simp [Leaves, settle, results, Tryz.results10, go_sem, d0, d0', d1, d2]
    exact HR
  · have he0 : (qk == 0) = false := by simpa using hq0
    have hsz8 := HLI.out.x.small
    go_wp2_with fail
    refine (peekP_any p k 0 U _ tv rv ti ri (qk, qb, qn) _ HLI.out.x HQ.out).mono ?_
    rintro x w7 ⟨rfl, hb7⟩
    dsimp only [wdv]
    have H7 := Lib.hid (HLI.out.ch hpW6 (Ch.of hb7) (HLI.out.x.moved hb7) (Nat.le_refl _))
    clear hb7
    go_wp2_with fail
    rcases hl with ⟨t, m, tx, rfl, hta, hre, h5, hm⟩ | ⟨r, m, k1, rfl, hra, h5, hm⟩ | ⟨h5, hm⟩
    · refine (pline_tok p k 0 0 U V HU.out.2.1 _ tv rv ti ri _ _ _ _ pst psr lt lr t tx W6 _ H6.out.1 H7.out hta hre h5).mono ?_
      rintro x w8 ⟨rfl, tv', ti', a, b, n, hli8⟩
      have HL8 := Lib.hid (And.intro hli8 hm)
      have hkl8 := hli8.x.le
      clear hli8 hta hre h5 hm
      go_wp2_with fail
      go_roundg (U.length - (k + 7))
      case measure => omega
      case rel => exact ⟨k + 7, tv', rv, ti', ri, pst ++ [(t, a, b)], psr, lt ++ [n], lr, m, Rr, by omega, HL8.out.1, by rw [HTR.out.1]; simp, HTR.out.2, HL8.out.2⟩
    · refine (pline_rule p k 0 0 U V HU.out.2.1 _ tv rv ti ri _ _ _ _ pst psr lt lr r k1 W6 _ H6.out.1 H7.out hra h5).mono ?_
      rintro x w8 ⟨rfl, rv', ri', a, n, hli8⟩
      have HL8 := Lib.hid (And.intro hli8 hm)
      have hkl8 := hli8.x.le
      have hk1 : k < k1 := ruAt_lt hra
      clear hli8 hra h5 hm
      go_wp2_with fail
      go_roundg (U.length - (k1 + 1))
      case measure => omega
      case rel => exact ⟨k1 + 1, tv, rv', ti, ri', pst, psr ++ [(r, a)], lt, lr ++ [n], Tr, m, by omega, HL8.out.1, HTR.out.1, by rw [HTR.out.2]; simp, HL8.out.2⟩
    · refine (pline_nl p k 0 0 U V HU.out.2.1 _ tv rv ti ri _ _ _ _ pst psr lt lr W6 _ H6.out.1 H7.out h5).mono ?_
      rintro x w8 ⟨rfl, hli8⟩
      have HL8 := Lib.hid (And.intro hli8 hm)
      have hkl8 := hli8.x.le
      clear hli8 h5 hm
      go_wp2_with fail
      go_roundg (U.length - (k + 1))
      case measure => omega
      case rel => exact ⟨k + 1, tv, rv, ti, ri, pst, psr, lt, lr, Tr, Rr, by omega, HL8.out.1, HTR.out.1, HTR.out.2, HL8.out.2⟩
end Go.Proofs.YtfkmajjgkdjncaaGreatDoor

set_option maxHeartbeats 2000000
set_option maxRecDepth 1000000
namespace Go.Proofs.YtfkmajjgkdjncaaGreatDoor
open Go.RowKit De Wd
def Cscatch (w : World) (p q r : Nat) (a b : Int) (x : Exit) (c : Act) (w' : World) : Prop :=
 x = .normal ∧ c.defers = [] ∧ w'.heap[p]? = some (.cells #[.slice none 0 0, .slice none 0 0] 26 (0, 0)) ∧ w'.heap[q]? = some (.cells #[.int .i64 a] 3 (0, 0)) ∧ w'.heap[r]? = some (.cells #[.int .i64 b] 3 (0, 0)) ∧ ∀ k, k ≤ p → k ≤ q → k ≤ r → k ≤ w.heap.size → Below k w w'
theorem scatch_panic (p q r : Nat) (a b : Int) (u0 u1 x y : Value) (w : World)
 (hP : w.heap[p]? = some (.cells #[u0, u1] 26 (0, 0))) (hQ : w.heap[q]? = some (.cells #[x] 3 (0, 0))) (hR : w.heap[r]? = some (.cells #[y] 3 (0, 0))) (hpq : p ≠ q) (hqr : q ≠ r) (hpr : p ≠ r) :
 CallsD Tryz.prog 20 #[.pointer (some ⟨p, 0, none⟩), .pointer (some ⟨q, 0, none⟩), .pointer (some ⟨r, 0, none⟩)] (.panicking ({ v := .iface 65 (.agg #[.int .i64 a, .int .i64 b]), recovered := false } :: [])) w fun e u' w' =>
  e = .returned (.tuple #[]) ∧ u' = .panicking ({ v := .iface 65 (.agg #[.int .i64 a, .int .i64 b]), recovered := true } :: []) ∧
  w'.heap[p]? = some (.cells #[.slice none 0 0, .slice none 0 0] 26 (0, 0)) ∧ w'.heap[q]? = some (.cells #[.int .i64 a] 3 (0, 0)) ∧ w'.heap[r]? = some (.cells #[.int .i64 b] 3 (0, 0)) ∧ ∀ k, k ≤ p → k ≤ q → k ≤ r → k ≤ w.heap.size → Below k w w' := by
 have ta : ∀ w, (Instr.typeAssert (.iface 65 (.agg #[.int .i64 a, .int .i64 b])) 20 65 true).run Tryz.prog w = .ok (.tuple #[.agg #[.int .i64 a, .int .i64 b], .bool true]) w := fun w => by kernel_rfl
 obtain ⟨⟨cP, cP1⟩, fP, fP1⟩ := cells2_of' hP
 obtain ⟨cQ, fQ⟩ := cell1_of hQ
 obtain ⟨cR, fR⟩ := cell1_of hR
 refine callsD_of_wpS Tryz.func20 rfl fun c₀ cs hu => ?_
 simp only [Tryz.ntmps20, List.size_toArray, List.length_cons, List.length_nil, Nat.reduceAdd, Nat.reduceSub, Array.replicate_succ, Array.replicate_zero, List.push_toArray, List.append_toArray, List.nil_append, List.cons_append]
 have hrec : recov (c₀ :: cs) = (.iface 65 (.agg #[.int .i64 a, .int .i64 b]), { c₀ with mode := .panicking ({ v := .iface 65 (.agg #[.int .i64 a, .int .i64 b]), recovered := true } :: []) } :: cs) := by
  simp [recov, recoverD, hu]
 apply wpS_seq
 refine wpS_region_recover rfl rfl ?_
 rw [hrec]
 have HU := Lib.hid hu
 clear hrec hu
 have HI := Lib.hid (And.intro hP (And.intro hQ hR))
 have hlt : p < w.heap.size := lt_of_some hP
 have hlo : q < w.heap.size := lt_of_some hQ
 have hlf : r < w.heap.size := lt_of_some hR
 clear hP hQ hR
 go_wp2
 simp only [Exit.thenS]
 refine wpS_of_wp (wp_mono (Q := Cscatch w p q r a b) ?_ ?_)
 · go_wp2
   go_region
   obtain ⟨hP, hQ, hR⟩ := HI.out
   refine ⟨rfl, rfl, ?_, ?_, ?_, ?_⟩
   · rw [drew_heap, Below.heap_alloc _ _ _ (by simp [World.setCell]; omega), Below.heap_setCell _ _ _ _ (by simpa using hpr), Below.heap_setCell _ _ _ _ (by simpa using hpq)]
     simp [World.setCell, Array.getElem?_modify, hP]
   · rw [drew_heap, Below.heap_alloc _ _ _ (by simp [World.setCell]; omega), Below.heap_setCell _ _ _ _ (by simpa using hqr)]
     refine set1 (a := x) ?_ _
     rw [Below.heap_setCell _ _ _ _ (by simpa using fun e => hpq e.symm), Below.heap_setCell _ _ _ _ (by simpa using fun e => hpq e.symm)]
     exact hQ
   · rw [drew_heap, Below.heap_alloc _ _ _ (by simp [World.setCell]; omega)]
     refine set1 (a := y) ?_ _
     rw [Below.heap_setCell _ _ _ _ (by simpa using fun e => hqr e.symm), Below.heap_setCell _ _ _ _ (by simpa using fun e => hpr e.symm), Below.heap_setCell _ _ _ _ (by simpa using fun e => hpr e.symm)]
     exact hR
   · intro k h1 h2 h3 h4
     exact ((((((Below.refl k w).setCell h1 _).setCell h1 _).setCell h2 _).setCell h3 _).alloc (by simp [World.setCell]; exact h4) _).drew
 · rintro e a w' ⟨rfl, hdf, h1, h2, h3, h4⟩
   refine ⟨hdf, _, rfl, .tuple #[], ?_, rfl, rfl, h1, h2, h3, h4⟩
   exact results_none rfl _ _ _
def Cpcatch (w : World) (p q r : Nat) (a b : Int) (x : Exit) (c : Act) (w' : World) : Prop :=
 x = .normal ∧ c.defers = [] ∧ w'.heap[p]? = some (.cells #[.int .i64 0, .slice none 0 0, .slice none 0 0] 35 (0, 0)) ∧ w'.heap[q]? = some (.cells #[.int .i64 a] 3 (0, 0)) ∧ w'.heap[r]? = some (.cells #[.int .i64 b] 3 (0, 0)) ∧ ∀ k, k ≤ p → k ≤ q → k ≤ r → k ≤ w.heap.size → Below k w w'
theorem pcatch_panic (p q r : Nat) (a b : Int) (u0 u1 u2 x y : Value) (w : World)
 (hP : w.heap[p]? = some (.cells #[u0, u1, u2] 35 (0, 0))) (hQ : w.heap[q]? = some (.cells #[x] 3 (0, 0))) (hR : w.heap[r]? = some (.cells #[y] 3 (0, 0))) (hpq : p ≠ q) (hqr : q ≠ r) (hpr : p ≠ r) :
 CallsD Tryz.prog 28 #[.pointer (some ⟨p, 0, none⟩), .pointer (some ⟨q, 0, none⟩), .pointer (some ⟨r, 0, none⟩)] (.panicking ({ v := .iface 65 (.agg #[.int .i64 a, .int .i64 b]), recovered := false } :: [])) w fun e u' w' =>
  e = .returned (.tuple #[]) ∧ u' = .panicking ({ v := .iface 65 (.agg #[.int .i64 a, .int .i64 b]), recovered := true } :: []) ∧
  w'.heap[p]? = some (.cells #[.int .i64 0, .slice none 0 0, .slice none 0 0] 35 (0, 0)) ∧ w'.heap[q]? = some (.cells #[.int .i64 a] 3 (0, 0)) ∧ w'.heap[r]? = some (.cells #[.int .i64 b] 3 (0, 0)) ∧ ∀ k, k ≤ p → k ≤ q → k ≤ r → k ≤ w.heap.size → Below k w w' := by
 have ta : ∀ w, (Instr.typeAssert (.iface 65 (.agg #[.int .i64 a, .int .i64 b])) 20 65 true).run Tryz.prog w = .ok (.tuple #[.agg #[.int .i64 a, .int .i64 b], .bool true]) w := fun w => by kernel_rfl
 obtain ⟨⟨cP, cP1, cP2⟩, fP, fP1, fP2⟩ := cells3_of' hP
 obtain ⟨cQ, fQ⟩ := cell1_of hQ
 obtain ⟨cR, fR⟩ := cell1_of hR
 refine callsD_of_wpS Tryz.func28 rfl fun c₀ cs hu => ?_
 simp only [Tryz.ntmps28, List.size_toArray, List.length_cons, List.length_nil, Nat.reduceAdd, Nat.reduceSub, Array.replicate_succ, Array.replicate_zero, List.push_toArray, List.append_toArray, List.nil_append, List.cons_append]
 have hrec : recov (c₀ :: cs) = (.iface 65 (.agg #[.int .i64 a, .int .i64 b]), { c₀ with mode := .panicking ({ v := .iface 65 (.agg #[.int .i64 a, .int .i64 b]), recovered := true } :: []) } :: cs) := by
  simp [recov, recoverD, hu]
 apply wpS_seq
 refine wpS_region_recover rfl rfl ?_
 rw [hrec]
 have HU := Lib.hid hu
 clear hrec hu
 have HI := Lib.hid (And.intro hP (And.intro hQ hR))
 have hlt : p < w.heap.size := lt_of_some hP
 have hlo : q < w.heap.size := lt_of_some hQ
 have hlf : r < w.heap.size := lt_of_some hR
 clear hP hQ hR
 go_wp2
 simp only [Exit.thenS]
 refine wpS_of_wp (wp_mono (Q := Cpcatch w p q r a b) ?_ ?_)
 · go_wp2
   go_region
   obtain ⟨hP, hQ, hR⟩ := HI.out
   refine ⟨rfl, rfl, ?_, ?_, ?_, ?_⟩
   · rw [drew_heap, Below.heap_alloc _ _ _ (by simp [World.setCell]; omega), Below.heap_setCell _ _ _ _ (by simpa using hpr), Below.heap_setCell _ _ _ _ (by simpa using hpq)]
     simp [World.setCell, Array.getElem?_modify, hP]
   · rw [drew_heap, Below.heap_alloc _ _ _ (by simp [World.setCell]; omega), Below.heap_setCell _ _ _ _ (by simpa using hqr)]
     refine set1 (a := x) ?_ _
     rw [Below.heap_setCell _ _ _ _ (by simpa using fun e => hpq e.symm), Below.heap_setCell _ _ _ _ (by simpa using fun e => hpq e.symm), Below.heap_setCell _ _ _ _ (by simpa using fun e => hpq e.symm)]
     exact hQ
   · rw [drew_heap, Below.heap_alloc _ _ _ (by simp [World.setCell]; omega)]
     refine set1 (a := y) ?_ _
     rw [Below.heap_setCell _ _ _ _ (by simpa using fun e => hqr e.symm), Below.heap_setCell _ _ _ _ (by simpa using fun e => hpr e.symm), Below.heap_setCell _ _ _ _ (by simpa using fun e => hpr e.symm), Below.heap_setCell _ _ _ _ (by simpa using fun e => hpr e.symm)]
     exact hR
   · intro k h1 h2 h3 h4
     exact (((((((Below.refl k w).setCell h1 _).setCell h1 _).setCell h1 _).setCell h2 _).setCell h3 _).alloc (by simp [World.setCell]; exact h4) _).drew
 · rintro e a w' ⟨rfl, hdf, h1, h2, h3, h4⟩
   refine ⟨hdf, _, rfl, .tuple #[], ?_, rfl, rfl, h1, h2, h3, h4⟩
   exact results_none rfl _ _ _
end Go.Proofs.YtfkmajjgkdjncaaGreatDoor
