/- Few: what gobolaw6.size and gobolaw11.patSize tell of trees. -/
import Derived.Laws.EntriesVeiled
import Derived.Deep.LoopGhost
import Derived.WalkSpells
import Derived.Defers
import Derived.Recover
import Derived.Lib.OthersKept
import Derived.Laws.RangeAny
import Derived.Outline
import Derived.RegionTactic
import Derived.ChangeAlike
import Derived.BigRegion
import Derived.StillTail
import Derived.BigQuiet
import Derived.Deep.RegionHeld3
import Derived.Deep.DeepCutAuto
import Derived.Test.YtmgfpcblbbpahaaGreatArgGram
set_option linter.unusedVariables false
set_option linter.unusedSimpArgs false
namespace Go.Proofs.YtmgfpcblbbpahaaGreat
open Go.RowKit Ru

namespace PT
mutual
def vis : PT → Nat → Nat → Bool × Nat
  | .mk k ns es l, n, deep => if 60 < n + 1 ∨ 12 < deep then (false, n + 1) else visL l (n + 1) (deep + 1)
def visL : List PT → Nat → Nat → Bool × Nat
  | [], n, _ => (true, n)
  | e :: l, n, deep => if (vis e n deep).1 = true then visL l (vis e n deep).2 deep else (false, (vis e n deep).2)
end
theorem vis_eq (e : PT) (n deep : Nat) : vis e n deep = if 60 < n + 1 ∨ 12 < deep then (false, n + 1) else visL e.parts (n + 1) (deep + 1) := by cases e; rw [vis]; rfl
theorem visL_nil (n deep : Nat) : visL [] n deep = (true, n) := by rw [visL]
theorem visL_cons (e : PT) (l : List PT) (n deep : Nat) : visL (e :: l) n deep = if (vis e n deep).1 = true then visL l (vis e n deep).2 deep else (false, (vis e n deep).2) := by rw [visL]
end PT
end Go.Proofs.YtmgfpcblbbpahaaGreat

namespace Go.Proofs.YtmgfpcblbbpahaaGreat
open Go.RowKit Ru

namespace PT
mutual
def emp : PT → Bool
  | .mk k n e l => if k = 1 ∨ k = 4 ∨ k = 7 then true else if k = 5 then (decide (l.length = 2) && allE l) else if k = 6 then anyE l else false
def anyE : List PT → Bool
  | [] => false
  | e :: l => emp e || anyE l
def allE : List PT → Bool
  | [] => true
  | e :: l => emp e && allE l
end
end PT
end Go.Proofs.YtmgfpcblbbpahaaGreat

namespace Go.Proofs.YtmgfpcblbbpahaaGreat
open Go.RowKit Ru
def PT.shp (e : PT) : Bool := if e.kind = 2 then (decide (0 < e.names.length) && decide (e.ends.length = 0) && decide (e.parts.length = 0)) else if e.kind = 3 then (decide (0 < e.names.length) && decide (0 < e.ends.length) && decide (e.parts.length = 1)) else if e.kind = 1 ∨ e.kind = 4 then (decide (e.names.length = 0) && decide (e.ends.length = 0) && decide (e.parts.length = 0)) else if e.kind = 5 ∨ e.kind = 6 then (decide (e.names.length = 0) && decide (e.ends.length = 0) && decide (e.parts.length = 2)) else if e.kind = 7 then (decide (e.names.length = 0) && decide (e.ends.length = 0) && decide (e.parts.length = 1)) else false
end Go.Proofs.YtmgfpcblbbpahaaGreat

namespace Go.Proofs.YtmgfpcblbbpahaaGreat
open Go.RowKit

end Go.Proofs.YtmgfpcblbbpahaaGreat

namespace Go.Proofs.YtmgfpcblbbpahaaGreat
open Go.RowKit Ru
end Go.Proofs.YtmgfpcblbbpahaaGreat

namespace Go.Proofs.YtmgfpcblbbpahaaGreat
open Go.RowKit Ru

end Go.Proofs.YtmgfpcblbbpahaaGreat

namespace Go.Proofs.YtmgfpcblbbpahaaGreat
open Go.RowKit Ru

def memS (l : List ByteArray) (s : ByteArray) : Bool := l.any fun x => decide (x = s)
end Go.Proofs.YtmgfpcblbbpahaaGreat

namespace Go.Proofs.YtmgfpcblbbpahaaGreat
open Go Go.RowKit

section
variable {P : Program} {ops : Array Oper} {md : Region.Mode} {C : World → Prop}
def Hd (P : Program) (md : Region.Mode) (ops : Array Oper) (C : World → Prop) (n : Nat) (L : Array Bool → Act → Prop) : Nat → Array Bool → Act → Prop
  | 0, s, a => L s a
  | f + 1, s, a => Region.ready md ops s ≠ [] ∧ ∀ i ∈ Region.ready md ops s, i < n ∧ qOp P ops C i (Hd P md ops C n L f (s.setIfInBounds i true)) a
end
end Go.Proofs.YtmgfpcblbbpahaaGreat

namespace Go.Proofs.YtmgfpcblbbpahaaGreat
open Go.RowKit Ru

def namesE (T : List TK) (kind : Int) : List ByteArray → List ByteArray → Option Int
  | _, [] => none
  | seen, x :: l => if findB T x < 0 ∨ memS seen x = true then some 4 else if (T[(findB T x).toNat]?.map (·.kind)) ≠ some kind then some 5 else namesE T kind (seen ++ [x]) l
end Go.Proofs.YtmgfpcblbbpahaaGreat

namespace Go.Proofs.YtmgfpcblbbpahaaGreat
open Go.RowKit Ru

end Go.Proofs.YtmgfpcblbbpahaaGreat

namespace Go.Proofs.YtmgfpcblbbpahaaGreat
open Go.RowKit Ru

def orE (a b : Option Int) : Option Int := match a with | some c => some c | none => b
def nodeE (T : List TK) (k : Int) (ns es : List ByteArray) : Option Int := if k = 2 then namesE T 0 [] ns else if k = 3 then orE (namesE T 1 [] ns) (namesE T 2 [] es) else none
mutual
def patE (T : List TK) : PT → Option Int
  | .mk k ns es l => if (PT.mk k ns es l).shp = false then some 5 else orE (nodeE T k ns es) (patEL T l)
def patEL (T : List TK) : List PT → Option Int
  | [] => none
  | p :: l => orE (patE T p) (patEL T l)
end
end Go.Proofs.YtmgfpcblbbpahaaGreat

namespace Go.Proofs.YtmgfpcblbbpahaaGreat
open Go.RowKit Ru

theorem StsAre.form {w : World} {v : Value} {l : List ST} (h : StsAre w v l) : ∃ o c, v = .slice o l.length c := by
  obtain ⟨ps, h1, ⟨o, c, h2, _⟩, _⟩ := h; exact ⟨o, c, h2⟩
end Go.Proofs.YtmgfpcblbbpahaaGreat

namespace Go.Proofs.YtmgfpcblbbpahaaGreat
open Go.RowKit Ru

theorem RusAre.form {w : World} {v : Value} {l : List RU} (h : RusAre w v l) : ∃ o c, v = .slice o l.length c := by
  obtain ⟨ps, h1, ⟨o, c, h2, _⟩, _⟩ := h; exact ⟨o, c, h2⟩
end Go.Proofs.YtmgfpcblbbpahaaGreat

namespace Go.Proofs.YtmgfpcblbbpahaaGreat
open Go.RowKit Ru
namespace PT
mutual
def cnt : PT → Nat → Nat → Nat → Nat × Nat
  | .mk _ _ _ l, deep, n, d => cntL l (deep + 1) (n + 1) (max d deep)
def cntL : List PT → Nat → Nat → Nat → Nat × Nat
  | [], _, n, d => (n, d)
  | e :: l, deep, n, d => cntL l deep (cnt e deep n d).1 (cnt e deep n d).2
end
theorem size_sizes (e : PT) : e.size = sizes e.parts + 1 := by cases e; rw [size_mk]; rfl
end PT
structure Ch2 (w w' : World) (p q : Nat) : Prop where
  os : w'.os = w.os
  tape : w'.tape = w.tape
  output : w'.output = w.output
  size : w.heap.size ≤ w'.heap.size
  block : ∀ k, k < w.heap.size → k ≠ p → k ≠ q → w'.heap[k]? = w.heap[k]?
theorem Ch2.refl (w : World) (p q : Nat) : Ch2 w w p q := ⟨rfl, rfl, rfl, Nat.le_refl _, fun _ _ _ _ => rfl⟩
end Go.Proofs.YtmgfpcblbbpahaaGreat

namespace Go.Proofs.YtmgfpcblbbpahaaGreat
open Go.RowKit Ru

namespace PT
mutual
def remp : PT → Bool
  | .mk k _ _ l => if k = 1 ∨ k = 4 ∨ k = 7 then true else if k = 5 then (decide (l.length = 2) && allR l) else if k = 6 then (decide (l.length = 2) && anyR l) else false
def anyR : List PT → Bool
  | [] => false
  | e :: l => remp e || anyR l
def allR : List PT → Bool
  | [] => true
  | e :: l => remp e && allR l
end
end PT
namespace PT
mutual
def dep : PT → Nat
  | .mk _ _ _ l => deps l + 1
def deps : List PT → Nat
  | [] => 0
  | e :: l => max (dep e) (deps l)
end
theorem dep_eq (e : PT) : e.dep = deps e.parts + 1 := by cases e; rw [dep]; rfl
theorem deps_snoc : ∀ (l : List PT) (e : PT), deps (l ++ [e]) = max (deps l) e.dep := by
  intro l
  induction l with
  | nil => intro e; rw [List.nil_append, deps, deps]; simp [deps]
  | cons a l ih => intro e; rw [List.cons_append, deps, ih, deps]; omega
theorem sizes_snoc : ∀ (l : List PT) (e : PT), sizes (l ++ [e]) = sizes l + e.size := by
  intro l
  induction l with
  | nil => intro e; rw [List.nil_append, sizes_cons, sizes_nil]; omega
  | cons a l ih => intro e; rw [List.cons_append, sizes_cons, ih, sizes_cons]; omega
theorem sizes_take : ∀ (l : List PT) (k : Nat), sizes (l.take k) ≤ sizes l := by
  intro l
  induction l with
  | nil => intro k; simp
  | cons a l ih =>
    intro k
    cases k with
    | zero => rw [List.take_zero, sizes_nil]; omega
    | succ k => rw [List.take_succ_cons, sizes_cons, sizes_cons]; have := ih k; omega
theorem dep_le : ∀ (N : Nat) (e : PT), e.size ≤ N → e.dep ≤ e.size := by
  intro N
  induction N with
  | zero => intro e h; have := e.size_pos; omega
  | succ N ih =>
    have all : ∀ l : List PT, sizes l ≤ N → deps l ≤ sizes l := by
      intro l
      induction l with
      | nil => intro _; rw [deps]; omega
      | cons a l ihl => intro h; rw [sizes_cons] at h ⊢; rw [deps]; have := ih a (by omega); have := ihl (by omega); omega
    intro e h
    rw [size_sizes] at h ⊢
    rw [dep_eq]
    have := all e.parts (by omega)
    omega
theorem take_snoc {l : List PT} {k : Nat} {p : PT} (h : l[k]? = some p) : l.take (k + 1) = l.take k ++ [p] := by rw [List.take_add_one, h]; rfl
end PT
end Go.Proofs.YtmgfpcblbbpahaaGreat

namespace Go.Proofs.YtmgfpcblbbpahaaGreat
open Go.RowKit Ru

namespace RE
theorem sizes_snoc : ∀ (l : List RE) (e : RE), sizes (l ++ [e]) = sizes l + e.size := by
  intro l
  induction l with
  | nil => intro e; rw [List.nil_append, sizes_cons, sizes_nil]; omega
  | cons a l ih => intro e; rw [List.cons_append, sizes_cons, ih, sizes_cons]; omega
theorem size_sizes (e : RE) : e.size = sizes e.parts + 1 := by cases e; rw [size_mk]; rfl
theorem take_snoc {l : List RE} {k : Nat} {p : RE} (h : l[k]? = some p) : l.take (k + 1) = l.take k ++ [p] := by rw [List.take_add_one, h]; rfl
theorem len_sizes : ∀ l : List RE, l.length ≤ sizes l := by
  intro l
  induction l with
  | nil => simp
  | cons a l ih => rw [sizes_cons, List.length_cons]; have := a.size_pos; omega
end RE
def SzPost (e : RE) (x : Ending) : Prop := ∃ r : Nat, x = .returned (.int .i64 (r : Int)) ∧ 1 ≤ r ∧ r ≤ 201 ∧ (r ≤ 200 → r = e.size ∧ e.Fit)
def SzIh (w0 : World) (N : Nat) : Prop := ∀ (e : RE) (sv lv : Value) (d : Nat) (w : World), e.size ≤ N → e.Raw → ReIs w0 e sv lv → Below w0.heap.size w0 w → d ≤ 17 →
  Calls Tryz.prog 43 #[.agg #[.int .i64 e.kind, sv, lv], .int .i64 (d : Int)] w fun x w' => SzPost e x ∧ Below w.heap.size w w'
set_option maxHeartbeats 8000000 in
set_option maxRecDepth 100000 in
theorem sz_all (w0 : World) : ∀ N, SzIh w0 N := by
  intro N
  induction N with
  | zero => intro e sv lv d w hs; have := e.size_pos; omega
  | succ N ih =>
    intro e sv lv d w hs hf hr hb0 hd
    obtain ⟨⟨o1, q1, rfl⟩, -⟩ := hr.form
    obtain ⟨o2, q2, c1, c2, rfl, hall⟩ := hr.all
    have HALL := Lib.hid hall
    have hin : ∀ (i : Nat) (p : RE) (w' : World), d ≤ 16 → e.parts[i]? = some p → Below w.heap.size w w' → Calls Tryz.prog 43 #[.agg #[.int .i64 p.kind, c1 i, c2 i], .int .i64 ((d : Int) + 1)] w' fun x w'' => SzPost p x ∧ Below w'.heap.size w' w'' := by
      intro i p w' hd' hp hb
      exact ih p _ _ (d + 1) w' (by have := RE.size_part hp; omega) (hf.part hp) (hall i p hp).1 (bel_then hb0 hb) (by omega)
    have HIN := Lib.hid hin
    have HB0 := Lib.hid hb0
    have HF := Lib.hid hf
    have HSZ := Lib.hid (RE.size_sizes e)
    clear hall hin hr hb0 ih hs hf
    obtain ⟨n, hn⟩ : ∃ n, n = e.parts.length := ⟨_, rfl⟩
    rw [← hn]
    have HNN := Lib.hid hn
    clear hn
    obtain ⟨ns, hns⟩ : ∃ n, n = e.set.length := ⟨_, rfl⟩
    rw [← hns]
    have HNS := Lib.hid hns
    clear hns
    obtain ⟨wB, hwB⟩ : ∃ wB, wB = w.alloc (.cells #[.int .i64 e.kind, .slice o1 ns q1, .slice o2 n q2] 41) := ⟨_, rfl⟩
    have HWB := Lib.hid (show Below w.heap.size w wB ∧ wB.cell? ⟨w.heap.size, 1, none⟩ = some (.slice o1 ns q1) ∧ wB.cell? ⟨w.heap.size, 2, none⟩ = some (.slice o2 n q2) by rw [hwB]; exact ⟨bel_new (Below.refl _ _) _, by simp [go_sem], by simp [go_sem]⟩)
    by_cases h1 : 16 < d
    · have d1 : decide ((16 : Int) < (d : Int)) = true := by simp; omega
      have d2 : decide (16 < d) = true := by simp; omega
      go_enter Tryz.func43, Tryz.ntmps43
      go_wp2_with fail
      go_ret
      exact ⟨⟨201, rfl, by omega, by omega, fun h => by omega⟩, by rw [← hwB]; exact HWB.out.1⟩
    have d1 : decide ((16 : Int) < (d : Int)) = false := by simp; omega
    have d2 : decide (16 < d) = false := by simp; omega
    have hdw : IntKind.i64.wrap ((d : Int) + 1) = (d : Int) + 1 := IntWalk.i64_in _ (by omega)
    by_cases h2 : 30 < ns
    · have d3 : decide ((30 : Int) < (ns : Int)) = true := by simp; omega
      have d4 : decide (30 < ns) = true := by simp; omega
      go_enter Tryz.func43, Tryz.ntmps43
      go_wp2_with fail
      go_ret
      exact ⟨⟨201, rfl, by omega, by omega, fun h => by omega⟩, by rw [← hwB]; exact HWB.out.1⟩
    have d3 : decide ((30 : Int) < (ns : Int)) = false := by simp; omega
    have d4 : decide (30 < ns) = false := by simp; omega
    have HH := Lib.hid (And.intro h1 h2)
    have hd0 : (0 : Int) ≤ (d : Int) := by omega
    have hd17 : (d : Int) ≤ 17 := by omega
    clear h1 h2 hd
    go_enter Tryz.func43, Tryz.ntmps43
    go_wp2_with fail
    rw [← hwB]
    clear hwB
    go_loopg [5, 6] n (fun g s5 s6 wx => ∃ k m : Nat, k + g = n ∧ s6 = .int .i64 (k : Int) ∧ s5 = .int .i64 (m : Int) ∧ k + 1 ≤ m ∧ m ≤ 401 ∧ (m ≤ 200 → m = 1 + RE.sizes (e.parts.take k) ∧ ∀ j p, j < k → e.parts[j]? = some p → p.Fit) ∧ Below w.heap.size w wx ∧ wx.cell? ⟨w.heap.size, 2, none⟩ = some (.slice o2 n q2))
    case atStart => exact ⟨0, 1, by omega, rfl, rfl, by omega, by omega, fun _ => ⟨by rw [List.take_zero, RE.sizes_nil], fun j p hj => by omega⟩, HWB.out.1, HWB.out.2.2⟩
    case round =>
      obtain ⟨k, m, hkg, rfl, rfl, hkm, hm4, hinv, hbel, e2⟩ := hrel
      have HINV := Lib.hid hinv
      have HBE := Lib.hid hbel
      clear hinv
      by_cases hk : k < n
      · have hx1 : decide ((k : Int) < (n : Int)) = true := by simp; omega
        have hx2 : decide (k < n) = true := by simpa using hk
        by_cases hm2 : m ≤ 200
        · have hx3 : decide ((m : Int) ≤ 200) = true := by simp; omega
          have hx4 : decide (m ≤ 200) = true := by simpa using hm2
          have hk1 : (0 : Int) ≤ (k : Int) := by omega
          have hk2 : (k : Int) < (n : Int) := by omega
          have hkw : IntKind.i64.wrap ((k : Int) + 1) = (k : Int) + 1 := IntWalk.i64_in _ (by omega)
          obtain ⟨p, hp⟩ : ∃ p, e.parts[k]? = some p := ⟨_, List.getElem?_eq_getElem (by have := HNN.out; omega)⟩
          obtain ⟨-, b0, off, rfl, hbl, k0, k1, k2⟩ := HALL.out k p hp
          have hbb := bel_then HB0.out hbel
          rw [← hbb.cell hbl] at k0 k1 k2
          have hcal := fun w' hb' => HIN.out k p w' (by have := HH.out.1; omega) hp hb'
          obtain ⟨x1, hx1'⟩ : ∃ x, x = c1 k := ⟨_, rfl⟩
          obtain ⟨x2, hx2'⟩ : ∃ x, x = c2 k := ⟨_, rfl⟩
          rw [← hx1', ← hx2'] at hcal
          rw [← hx1'] at k1
          rw [← hx2'] at k2
          have HCAL := Lib.hid hcal
          have HP := Lib.hid hp
          clear hcal hp hbb hx1' hx2' hbl hbel
          go_wp2_with fail
          refine (HCAL.out _ (by exact HBE.out)).mono ?_
          rintro x w3 ⟨⟨r, rfl, hr1, hr2, hr3⟩, hb3⟩
          have g2 := cell_later hb3 e2
          have HB3 := Lib.hid (bel_then HBE.out hb3)
          have HR3 := Lib.hid hr3
          have hwa : IntKind.i64.wrap ((m : Int) + (r : Int)) = ((m + r : Nat) : Int) := by rw [IntWalk.i64_in _ (by omega)]; omega
          obtain ⟨g, rfl⟩ : ∃ g, gk = g + 1 := ⟨gk - 1, by omega⟩
          clear hb3 e2 k0 k1 k2 hr3
          go_wp2_with fail
          go_roundg g
          case measure => omega
          case rel =>
            refine ⟨k + 1, m + r, by omega, by simp, by first | rfl | simp, by omega, by omega, fun h => ?_, HB3.out, g2⟩
            have h1 := HR3.out (by omega)
            have h2 := HINV.out (by omega)
            refine ⟨by rw [RE.take_snoc HP.out, RE.sizes_snoc]; omega, fun j q hj hq => ?_⟩
            rcases Nat.lt_or_ge j k with h3 | h3
            · exact h2.2 j q h3 hq
            · obtain rfl : j = k := by omega
              rw [HP.out] at hq; cases hq; exact h1.2
        · have hx3 : decide ((m : Int) ≤ 200) = false := by simp; omega
          have hx4 : decide (m ≤ 200) = false := by simpa using hm2
          clear hbel
          go_wp2_with fail
          all_goals go_ret
          all_goals first | exact ⟨⟨201, rfl, by omega, by omega, fun h => by omega⟩, HBE.out⟩ | exact ⟨⟨m, rfl, by omega, by omega, fun h => by omega⟩, HBE.out⟩
      · obtain rfl : k = n := by omega
        have hx1 : decide ((k : Int) < (k : Int)) = false := by simp
        have hx2 : decide (k < k) = false := by simp
        have HZ := Lib.hid (show (m ≤ 200 → m = e.size ∧ e.Fit) by
          intro h
          have h2 := HINV.out (by omega)
          have h3 : e.parts.take k = e.parts := List.take_of_length_le (by have := HNN.out; omega)
          rw [h3] at h2
          have h4 := HSZ.out
          have h5 := RE.len_sizes e.parts
          refine ⟨by omega, ?_⟩
          have h6 := HF.out
          have h7 := HNS.out
          have h8 := HH.out.2
          cases e with
          | mk k0 s l => exact .mk k0 s l h6.sets (by have : ns = s.length := h7; omega) (by have : (RE.mk k0 s l).parts = l := rfl; rw [this] at h5 h2; omega) (fun i p hp => h2.2 i p (by have := (List.getElem?_eq_some_iff.1 hp).1; have := HNN.out; have h9 : (RE.mk k0 s l).parts = l := rfl; rw [h9] at this; omega) hp))
        clear hbel
        go_wp2_with fail
        all_goals go_ret
        all_goals first | exact ⟨⟨201, rfl, by omega, by omega, fun h => by omega⟩, HBE.out⟩ | exact ⟨⟨m, rfl, by omega, by omega, HZ.out⟩, HBE.out⟩
set_option maxHeartbeats 4000000 in
set_option maxRecDepth 100000 in
theorem few_any (e : RE) (sv lv : Value) (w : World) (hr : ReIs w e sv lv) (hf : e.Raw) :
    Calls Tryz.prog 17 #[.agg #[.int .i64 e.kind, sv, lv]] w fun x w' => (∃ b : Bool, x = .returned (.bool b) ∧ (b = true → e.size ≤ 200 ∧ e.Fit)) ∧ Below w.heap.size w w' := by
  obtain ⟨⟨o1, q1, rfl⟩, ⟨o2, q2, rfl⟩⟩ := hr.form
  have hc := fun w' hb => sz_all w e.size e _ _ 1 w' (Nat.le_refl _) hf hr hb (by omega)
  have HC := Lib.hid hc
  clear hc hr hf
  go_enter Tryz.func17, Tryz.ntmps17
  go_wp2_with fail
  refine (HC.out _ (bel_new (Below.refl _ _) _)).mono ?_
  rintro x w2 ⟨⟨r, rfl, hr1, hr2, hr3⟩, hb2⟩
  obtain ⟨b, hb⟩ : ∃ b, decide (r ≤ 200) = b := ⟨_, rfl⟩
  have hb9 : decide ((r : Int) ≤ 200) = b := by rw [← hb, decide_eq_decide]; omega
  have HX := Lib.hid (show (b = true → e.size ≤ 200 ∧ e.Fit) ∧ Below w.heap.size w w2 by
    refine ⟨fun h => ?_, bel_then (bel_new (Below.refl _ _) _) hb2⟩
    subst hb
    have := hr3 (by simpa using h)
    exact ⟨by have := of_decide_eq_true h; omega, this.2⟩)
  clear hr3 hb2
  go_wp2_with fail
  go_ret
  exact ⟨⟨b, rfl, HX.out.1⟩, HX.out.2⟩

end Go.Proofs.YtmgfpcblbbpahaaGreat
