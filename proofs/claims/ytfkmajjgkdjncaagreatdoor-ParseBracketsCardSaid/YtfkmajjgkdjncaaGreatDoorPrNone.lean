/- Merged. -/
import Derived.Test.YtfkmajjgkdjncaaGreatDoorChecked
import Derived.Test.YtfkmajjgkdjncaaGreatDoorProg
import Derived.WalkKit
import Derived.Lib.Hide
import Derived.Lib.SmallJoins
import Derived.IntWalk
import Derived.Deep.LoopGhost
import Derived.WalkLawsBesides
import Derived.Deep.DeepCutAuto
import Derived.Deep.CutBlock
import Derived.WalkSpells
import Derived.Lib.EndianBits
import Derived.WideShapes
import Derived.Laws.IdiomStrings
import Derived.Test.YtfkmajjgkdjncaaGreatDoorPJoin
import Derived.ChangeSlices
import Derived.ProofKit
import Derived.OpenShut
import Derived.SizedLaws
import Derived.Deep.RegionHeld3
import Derived.Test.YtfkmajjgkdjncaaGreatDoorRefSetsG
import Derived.Test.YtfkmajjgkdjncaaGreatDoorGSame
set_option linter.unusedVariables false
set_option linter.unusedSimpArgs false
namespace Go.Proofs.YtfkmajjgkdjncaaGreatDoor
open Go.RowKit Go.Joins Go.Lib
def hexd (n : Nat) : UInt8 := if n < 10 then UInt8.ofNat (48 + n) else UInt8.ofNat (87 + n)
def hexN (n : Nat) : List UInt8 := if h : n < 16 then [hexd n] else hexN (n / 16) ++ [hexd (n % 16)]
theorem hexN_small {n : Nat} (h : n < 16) : hexN n = [hexd n] := by rw [hexN, dif_pos h]
theorem hexN_big {n : Nat} (h : ¬ n < 16) : hexN n = hexN (n / 16) ++ [hexd (n % 16)] := by rw [hexN, dif_neg h]
end Go.Proofs.YtfkmajjgkdjncaaGreatDoor

namespace Go.Proofs.YtfkmajjgkdjncaaGreatDoor
open Go.RowKit
def alnum (r : Int) : Bool := (decide (97 ≤ r) && decide (r ≤ 122)) || (decide (65 ≤ r) && decide (r ≤ 90)) || (decide (48 ≤ r) && decide (r ≤ 57))
def hexU (n : Nat) : ByteArray := ⟨(Lib.toUpperA (hexN n)).toArray⟩
def letB (r : Int) : ByteArray := if alnum r = true then ⟨#[UInt8.ofNat r.toNat]⟩ else (⟨#[92, 117, 123]⟩ ++ hexU r.toNat) ++ ⟨#[125]⟩
theorem hexN_len : ∀ (k n : Nat), n < 16 ^ (k + 1) → (hexN n).length ≤ k + 1 := by
 intro k
 induction k with
 | zero => intro n h; rw [hexN_small (by simpa using h)]; simp
 | succ k ih =>
  intro n h
  by_cases h16 : n < 16
  · rw [hexN_small h16]; simp
  · rw [hexN_big h16]
    have := ih (n / 16) (by rw [Nat.div_lt_iff_lt_mul (by decide)]; rw [Nat.pow_succ] at h; exact h)
    simp; omega
end Go.Proofs.YtfkmajjgkdjncaaGreatDoor

namespace Go.Proofs.YtfkmajjgkdjncaaGreatDoor
open Go.RowKit Ru
def catB (l : List ByteArray) : ByteArray := ⟨((l.map (·.data.toList)).flatten).toArray⟩
theorem catB_size (l : List ByteArray) : (catB l).size = (l.map ByteArray.size).sum := by
 show ((l.map (·.data.toList)).flatten).toArray.size = _
 rw [List.size_toArray]
 induction l with
 | nil => rfl
 | cons a l ih => simp [ih]
end Go.Proofs.YtfkmajjgkdjncaaGreatDoor

namespace Go.Proofs.YtfkmajjgkdjncaaGreatDoor
open Go.RowKit Ru
def ROK (x : Int × Int) : Prop := (0 ≤ x.1 ∧ x.1 ≤ 1114111) ∧ (0 ≤ x.2 ∧ x.2 ≤ 1114111)
def rngB (x : Int × Int) : ByteArray := if x.1 = x.2 then letB x.1 else (letB x.1 ++ ⟨#[45]⟩) ++ letB x.2
def setB (l : List (Int × Int)) : ByteArray := if l.length = 1 ∧ (l.getD 0 (0, 0)).1 = (l.getD 0 (0, 0)).2 then letB (l.getD 0 (0, 0)).1 else (⟨#[91]⟩ ++ catB (l.map rngB)) ++ ⟨#[93]⟩
theorem hexU_size {r : Int} (h0 : 0 ≤ r) (h1 : r ≤ 1114111) : (hexU r.toNat).size ≤ 6 := by
 show (Lib.toUpperA (hexN r.toNat)).toArray.size ≤ 6
 rw [List.size_toArray]
 have := hexN_len 5 r.toNat (by have : r.toNat < 16777216 := by omega
                                simpa using this)
 simp only [Lib.toUpperA, List.length_map]
 omega
theorem letB_size {r : Int} (h0 : 0 ≤ r) (h1 : r ≤ 1114111) : (letB r).size ≤ 10 := by
 unfold letB
 split
 · show 1 ≤ 10; decide
 · have := hexU_size h0 h1
   rw [ByteArray.size_append, ByteArray.size_append]
   show 3 + _ + 1 ≤ 10
   omega
theorem rngB_size {x : Int × Int} (h : ROK x) : (rngB x).size ≤ 21 := by
 have a := letB_size h.1.1 h.1.2
 have b := letB_size h.2.1 h.2.2
 unfold rngB
 split
 · omega
 · rw [ByteArray.size_append, ByteArray.size_append]
   show _ + 1 + _ ≤ 21
   omega
theorem catB_le (k : Nat) : ∀ l : List ByteArray, (∀ x ∈ l, x.size ≤ k) → (catB l).size ≤ k * l.length := by
 intro l
 rw [catB_size]
 induction l with
 | nil => intro _; simp
 | cons a l ih =>
  intro h
  have h1 := h a (by simp)
  have h2 := ih (fun x hx => h x (by simp [hx]))
  simp only [List.map_cons, List.sum_cons, List.length_cons, Nat.mul_add, Nat.mul_one]
  omega
theorem ranges_le {l : List (Int × Int)} (h : ∀ x ∈ l, ROK x) : (catB (l.map rngB)).size ≤ 21 * l.length := by
 have := catB_le 21 (l.map rngB) (fun y hy => by
  obtain ⟨x, hx, rfl⟩ := List.mem_map.1 hy
  exact rngB_size (h x hx))
 simpa using this
theorem setB_size {l : List (Int × Int)} (h : ∀ x ∈ l, ROK x) : (setB l).size ≤ 21 * l.length + 2 := by
 unfold setB
 split
 · rename_i hh
   match l, hh with
   | [x], hh => have := letB_size (h x (by simp)).1.1 (h x (by simp)).1.2; simp; omega
 · have := ranges_le h
   rw [ByteArray.size_append, ByteArray.size_append]
   show 1 + _ + 1 ≤ _
   omega
end Go.Proofs.YtfkmajjgkdjncaaGreatDoor

namespace Go.Proofs.YtfkmajjgkdjncaaGreatDoor
open Go.RowKit Go.ChangeShapes Go.WideShapes Go.ChangeAt
theorem arg_row {P : Program} {W : World} {H : Type} {enc : TypeId × Value → H} {r : Reach} {b0 : Nat} {t e : TypeId} {k : IntKind} {v : Value} {d : DataW H} {ps : List MemPlace}
 (ht : P.underlying t = some (.slice e)) (he : P.underlying e = some (.int k)) (hc : P.cellsOf e = 1)
 (hval : Value.okWide P W r b0 t v) (h : DataW.Trod enc P W 0 (fun _ => true) true t v d ps) (hlt : ∀ x ∈ ps, x.block < W.heap.size) :
 ∃ zs : List Int, Row W v zs.length (zs.map (Value.int k)) ∧ ∀ n ∈ zs, (Lit.int k n).wf = true := by
 obtain ⟨a0, len, cap, rfl⟩ := okWide_slice ht hval
 obtain ⟨fuel, hf⟩ := h
 rcases open_ints ht he hc hf with ⟨hcs, hx⟩ | ⟨a, len', cap', zs, hcs, _, hl, hm, hz, hx, hcell, hwz⟩
 · simp [Value.cells] at hcs
   obtain ⟨rfl, rfl, rfl⟩ := hcs
   exact ⟨[], Row.nil W, by simp⟩
 · simp [Value.cells] at hcs
   obtain ⟨rfl, rfl, rfl⟩ := hcs
   simp only [Prod.mk.injEq] at hx
   obtain ⟨rfl, rfl⟩ := hx
   simp only [if_true] at hz
   have hlen : (zs.take len).length = len := by simp; omega
   refine ⟨zs.take len, ?_, fun n hn => hwz n (List.mem_of_mem_take hn)⟩
   rw [hlen]
   refine ⟨some a, cap, rfl, hl, hm, ?_⟩
   by_cases hl0 : len = 0
   · exact .inl ⟨hl0, fun h => by cases h⟩
   · obtain ⟨b, off, spot⟩ := a
     have hspot : spot = none := by simpa [Addr.add] using World.cell?_spot (hcell 0 (by omega))
     subst hspot
     have hbW : b < W.heap.size := hlt (.cell b off) (MemPlace.mem_row.2 ⟨0, by omega, by simp⟩)
     refine .inr ⟨b, off, rfl, hbW, fun j u hj => ?_⟩
     have hj2 : j < len := by
      have := (List.getElem?_eq_some_iff.1 hj).1
      simp at this; omega
     have h1 := hcell j (by omega)
     rw [add_plain] at h1
     rw [h1]
     rw [List.getElem?_map, List.getElem?_take, if_pos hj2, List.getElem?_eq_getElem (by omega)] at hj
     simp at hj
     rw [← hj, List.getD, List.getElem?_eq_getElem (by omega)]
     rfl
end Go.Proofs.YtfkmajjgkdjncaaGreatDoor

namespace Go.Proofs.YtfkmajjgkdjncaaGreatDoor
open Go.RowKit Go.ChangeShapes Go.WideShapes Go.ChangeAt Go.Deep Go.Joins
end Go.Proofs.YtfkmajjgkdjncaaGreatDoor

namespace Go.Proofs.YtfkmajjgkdjncaaGreatDoor
open Go.RowKit Ru
namespace PT
mutual
def remp : PT → Bool
 | .mk k _ _ l => if k = 1 ∨ k = 4 ∨ k = 7 then true else if k = 5 then (decide (l.length = 2) && allR l) else if k = 6 then (decide (l.length = 2) && anyR l) else false
def anyR : List PT → Bool
 | [] => false
 | e :: l => remp e || anyR l
def allR : List PT → Bool
 | [] => true
 | e :: l => remp e && allR l
end
end PT
namespace PT
mutual
def dep : PT → Nat
 | .mk _ _ _ l => deps l + 1
def deps : List PT → Nat
 | [] => 0
 | e :: l => max (dep e) (deps l)
end
end PT
end Go.Proofs.YtfkmajjgkdjncaaGreatDoor

namespace Go.Proofs.YtfkmajjgkdjncaaGreatDoor
open Go.RowKit Go.ChangeShapes Go.WideShapes Go.ChangeAt Go.Deep Go.Joins
section
variable {H : Type} {enc : TypeId × Value → H} {W : World}
end
end Go.Proofs.YtfkmajjgkdjncaaGreatDoor

namespace Go.Proofs.YtfkmajjgkdjncaaGreatDoor
open Go.RowKit Ru
namespace RE
theorem sizes_snoc : ∀ (l : List RE) (e : RE), sizes (l ++ [e]) = sizes l + e.size := by
 intro l
 induction l with
 | nil => intro e; rw [List.nil_append, sizes_cons, sizes_nil]; omega
 | cons a l ih => intro e; rw [List.cons_append, sizes_cons, ih, sizes_cons]; omega
theorem size_sizes (e : RE) : e.size = sizes e.parts + 1 := by cases e; rw [size_mk]; rfl
theorem take_snoc {l : List RE} {k : Nat} {p : RE} (h : l[k]? = some p) : l.take (k + 1) = l.take k ++ [p] := by rw [List.take_add_one, h]; rfl
end RE
end Go.Proofs.YtfkmajjgkdjncaaGreatDoor

set_option maxHeartbeats 16000000
set_option maxRecDepth 100000
namespace Go.Proofs.YtfkmajjgkdjncaaGreatDoor
open Go.RowKit Ru
namespace RE
mutual
def dep : RE → Nat
 | .mk _ _ l => deps l + 1
def deps : List RE → Nat
 | [] => 0
 | e :: l => max (dep e) (deps l)
end
theorem dep_eq (e : RE) : e.dep = deps e.parts + 1 := by cases e; rw [dep]; rfl
theorem deps_snoc : ∀ (l : List RE) (e : RE), deps (l ++ [e]) = max (deps l) e.dep := by
 intro l
 induction l with
 | nil => intro e; rw [List.nil_append, deps, deps]; simp [deps]
 | cons a l ih => intro e; rw [List.cons_append, deps, ih, deps]; omega
theorem sizes_take : ∀ (l : List RE) (k : Nat), sizes (l.take k) ≤ sizes l := by
 intro l
 induction l with
 | nil => intro k; simp
 | cons a l ih =>
  intro k
  cases k with
  | zero => rw [List.take_zero, sizes_nil]; omega
  | succ k => rw [List.take_succ_cons, sizes_cons, sizes_cons]; have := ih k; omega
theorem dep_le : ∀ (N : Nat) (e : RE), e.size ≤ N → e.dep ≤ e.size := by
 intro N
 induction N with
 | zero => intro e h; have := e.size_pos; omega
 | succ N ih =>
  have all : ∀ l : List RE, sizes l ≤ N → deps l ≤ sizes l := by
   intro l
   induction l with
   | nil => intro _; rw [deps]; omega
   | cons a l ihl => intro h; rw [sizes_cons] at h ⊢; rw [deps]; have := ih a (by omega); have := ihl (by omega); omega
  intro e h
  rw [size_sizes] at h ⊢
  rw [dep_eq]
  have := all e.parts (by omega)
  omega
theorem deps_cons (e : RE) (l : List RE) : deps (e :: l) = max e.dep (deps l) := by rw [deps]
theorem deps_nil0 : deps [] = 0 := by rw [deps]
mutual
def prt : RE → Bool
 | .mk k s l => shp (.mk k s l) && prtL l
def prtL : List RE → Bool
 | [] => true
 | e :: l => prt e && prtL l
end
theorem prt_eq (e : RE) : e.prt = (e.shp && prtL e.parts) := by cases e; rw [prt]; rfl
theorem prtL_cons (e : RE) (l : List RE) : prtL (e :: l) = (e.prt && prtL l) := by rw [prtL]
theorem prtL_nil : prtL [] = true := by rw [prtL]
theorem vis_both : ∀ (N : Nat) (e : RE), e.size ≤ N → ∀ n d, ((e.vis n d).1 = true ↔ n + e.size ≤ 60 ∧ e.dep + d ≤ 13 ∧ e.prt = true) ∧ ((e.vis n d).1 = true → (e.vis n d).2 = n + e.size) := by
 intro N
 induction N with
 | zero => intro e h; have := e.size_pos; omega
 | succ N ih =>
  have all : ∀ (l : List RE) (n d : Nat), sizes l ≤ N → n ≤ 60 → d ≤ 13 → ((visL l n d).1 = true ↔ n + sizes l ≤ 60 ∧ deps l + d ≤ 13 ∧ prtL l = true) ∧ ((visL l n d).1 = true → (visL l n d).2 = n + sizes l) := by
   intro l
   induction l with
   | nil => intro n d _ hn hd; rw [visL_nil, sizes_nil, deps_nil0, prtL_nil]; exact ⟨⟨fun _ => ⟨by omega, by omega, rfl⟩, fun _ => rfl⟩, fun _ => rfl⟩
   | cons a l ihl =>
    intro n d hl hn hd
    rw [sizes_cons] at hl
    obtain ⟨i1, i2⟩ := ih a (by omega) n d
    rw [visL_cons, sizes_cons, deps_cons, prtL_cons, Bool.and_eq_true]
    by_cases h1 : (a.vis n d).1 = true
    · rw [if_pos h1, i2 h1]
      have h2 := i1.1 h1
      obtain ⟨j1, j2⟩ := ihl (n + a.size) d (by omega) h2.1 hd
      refine ⟨j1.trans ⟨fun h => ⟨by omega, by omega, h2.2.2, h.2.2⟩, fun h => ⟨by omega, by omega, h.2.2.2⟩⟩, fun h => by rw [j2 h]; omega⟩
    · rw [if_neg h1]
      refine ⟨⟨fun h => (by cases h), fun h => absurd (i1.2 ⟨by omega, by omega, h.2.2.1⟩) h1⟩, fun h => by cases h⟩
  intro e hs n d
  have hz := size_sizes e
  have hp := e.size_pos
  have hdp := dep_eq e
  rw [vis_eq, prt_eq, Bool.and_eq_true]
  by_cases hc : 60 < n + 1 ∨ 12 < d ∨ shp e = false
  · rw [if_pos hc]
    refine ⟨⟨fun h => (by cases h), fun h => ?_⟩, fun h => by cases h⟩
    rcases hc with hc | hc | hc
    · omega
    · omega
    · rw [hc] at h; exact absurd h.2.2.1 (by decide)
  · rw [if_neg hc]
    obtain ⟨j1, j2⟩ := all e.parts (n + 1) (d + 1) (by omega) (by omega) (by omega)
    have hsh : shp e = true := by
     cases h : shp e with
     | true => rfl
     | false => exact absurd (.inr (.inr h)) hc
    exact ⟨j1.trans ⟨fun h => ⟨by omega, by omega, hsh, h.2.2⟩, fun h => ⟨by omega, by omega, h.2.2.2⟩⟩, fun h => by rw [j2 h]; omega⟩
theorem may_iff (e : RE) : e.may = true ↔ e.size ≤ 60 ∧ e.dep ≤ 12 ∧ e.prt = true := by
 unfold may
 have := (vis_both e.size e (Nat.le_refl _) 0 1).1
 exact this.trans ⟨fun h => ⟨by omega, by omega, h.2.2⟩, fun h => ⟨by omega, by omega, h.2.2⟩⟩
theorem may_dec (e : RE) : e.may = (decide (e.size ≤ 60) && (decide (e.dep ≤ 12) && e.prt)) := by
 rw [Bool.eq_iff_iff, may_iff]
 simp
end RE
def ECntIh (w0 : World) (N : Nat) : Prop := ∀ (e : RE) (nv lv : Value) (w : World), e.size ≤ N → e.size ≤ 1000 → e.Fit → ReIs w0 e nv lv → Below w0.heap.size w0 w →
 Calls Tryz.prog 104 #[.agg #[.int .i64 e.kind, nv, lv], .int .i64 0] w fun x w' => x = .returned (.tuple #[.int .i64 (e.size : Nat), .int .i64 (e.dep : Nat)]) ∧ Below w.heap.size w w'
theorem ecnt_all (w0 : World) : ∀ N, ECntIh w0 N := by
 intro N
 induction N with
 | zero => intro e nv lv w hs; have := e.size_pos; omega
 | succ N ih =>
  intro e nv lv w hs hs9 hf hr hb0
  obtain ⟨⟨o1, q1, rfl⟩, -⟩ := hr.form
  obtain ⟨o2, q2, c1, c2, rfl, hall⟩ := hr.all
  have hm1 := hf.sets
  have HALL := Lib.hid hall
  have hin : ∀ (i : Nat) (p : RE) (w' : World), e.parts[i]? = some p → Below w.heap.size w w' → Calls Tryz.prog 104 #[.agg #[.int .i64 p.kind, c1 i, c2 i], .int .i64 0] w' fun x w'' => x = .returned (.tuple #[.int .i64 (p.size : Nat), .int .i64 (p.dep : Nat)]) ∧ Below w'.heap.size w' w'' := by
   intro i p w' hp hb
   exact ih p _ _ w' (by have := RE.size_part hp; omega) (by have := RE.size_part hp; omega) (hf.part hp) (hall i p hp).1 (bel_then hb0 hb)
  have HIN := Lib.hid hin
  have HB0 := Lib.hid hb0
  have HSZ := Lib.hid (And.intro (RE.size_sizes e) (And.intro (RE.dep_eq e) (And.intro hs9 (RE.dep_le e.size e (Nat.le_refl _)))))
  clear hall hin hr hb0 ih hs hs9
  obtain ⟨n, hn⟩ : ∃ n, n = e.parts.length := ⟨_, rfl⟩
  rw [← hn]
  have HNN := Lib.hid hn
  have hn9 : n ≤ 1000 := by omega
  clear hn hm1
  go_enter Tryz.func104, Tryz.ntmps104
  go_wp2_with fail
  obtain ⟨wB, hwB⟩ : ∃ wB, wB = w.alloc (.cells #[.int .i64 e.kind, .slice o1 e.set.length q1, .slice o2 n q2] 35) := ⟨_, rfl⟩
  rw [← hwB]
  have HWB := Lib.hid (show Below w.heap.size w wB ∧ wB.cell? ⟨w.heap.size, 2, none⟩ = some (.slice o2 n q2) by rw [hwB]; exact ⟨bel_new (Below.refl _ _) _, by simp [go_sem]⟩)
  clear hwB
  go_loopg [1, 6, 7] n (fun g s4 s5 s6 wx => ∃ k : Nat, k + g = n ∧ s6 = .int .i64 (k : Int) ∧ s4 = .int .i64 ((1 + RE.sizes (e.parts.take k) : Nat) : Int) ∧ s5 = .int .i64 ((RE.deps (e.parts.take k) : Nat) : Int) ∧ Below w.heap.size w wx ∧ wx.cell? ⟨w.heap.size, 2, none⟩ = some (.slice o2 n q2))
  case atStart => exact ⟨0, by omega, rfl, by rw [List.take_zero, RE.sizes_nil]; rfl, by rw [List.take_zero, RE.deps]; rfl, HWB.out.1, HWB.out.2⟩
  case round =>
   obtain ⟨k, hkg, rfl, rfl, rfl, hbel, e2⟩ := hrel
   obtain ⟨m, hm⟩ : ∃ m, m = 1 + RE.sizes (e.parts.take k) := ⟨_, rfl⟩
   obtain ⟨d, hd⟩ : ∃ d, d = RE.deps (e.parts.take k) := ⟨_, rfl⟩
   rw [← hm, ← hd]
   have hm9 : m ≤ 1000 := by have := RE.sizes_take e.parts k; have := HSZ.out.1; have := HSZ.out.2.2.1; omega
   have HM := Lib.hid (And.intro hm hd)
   have HBE := Lib.hid hbel
   clear hm hd
   cases gk with
   | zero =>
    obtain rfl : k = n := by omega
    have hx1 : decide ((k : Int) < (k : Int)) = false := by simp
    have hx2 : decide (k < k) = false := by simp
    have hd9 : d + 1 = e.dep ∧ m = e.size := by
     have h1 := HM.out
     have h2 : e.parts.take k = e.parts := List.take_of_length_le (by have := HNN.out; omega)
     rw [h2] at h1
     have := HSZ.out.1; have := HSZ.out.2.1
     exact ⟨by omega, by omega⟩
    have hdn : d ≤ 1000 := by have := HSZ.out.2.2; omega
    have hw : IntKind.i64.wrap ((d : Int) + 1) = (d : Int) + 1 := IntWalk.i64_in _ (by omega)
    have HD := Lib.hid hd9
    clear hd9 hbel
    go_wp2_with fail
    go_ret2
    exact ⟨by rw [← HD.out.1, ← HD.out.2]; rfl, HBE.out⟩
   | succ g =>
    have hk : k < n := by omega
    have hx1 : decide ((k : Int) < (n : Int)) = true := by simp; omega
    have hx2 : decide (k < n) = true := by simpa using hk
    have hx3 : decide ((m : Int) < 2000) = true := by simp; omega
    have hx4 : decide (m < 2000) = true := by simp; omega
    have hk1 : (0 : Int) ≤ (k : Int) := by omega
    have hk2 : (k : Int) < (n : Int) := by omega
    obtain ⟨p, hp⟩ : ∃ p, e.parts[k]? = some p := ⟨_, List.getElem?_eq_getElem (by have := HNN.out; omega)⟩
    obtain ⟨-, b0, off, rfl, hbl, k0, k1, k2⟩ := HALL.out k p hp
    have hbb := bel_then HB0.out hbel
    rw [← hbb.cell hbl] at k0 k1 k2
    have hcal := fun w' hb' => HIN.out k p w' hp hb'
    obtain ⟨x1, hx1'⟩ : ∃ x, x = c1 k := ⟨_, rfl⟩
    obtain ⟨x2, hx2'⟩ : ∃ x, x = c2 k := ⟨_, rfl⟩
    rw [← hx1', ← hx2'] at hcal
    rw [← hx1'] at k1
    rw [← hx2'] at k2
    have HCAL := Lib.hid hcal
    have HP := Lib.hid hp
    have hpz : p.size ≤ 1000 ∧ p.dep ≤ 1000 ∧ m + p.size ≤ 1000 ∧ d ≤ 1000 := by
     have h1 := RE.sizes_take e.parts (k + 1)
     rw [RE.take_snoc hp, RE.sizes_snoc] at h1
     have h2 := HSZ.out; have h3 := HM.out
     have h4 := RE.dep_le p.size p (Nat.le_refl _)
     have h5 : d ≤ e.dep := by
      have : ∀ (l : List RE) (j : Nat), RE.deps (l.take j) ≤ RE.deps l := by
       intro l
       induction l with
       | nil => intro j; simp
       | cons a l ih =>
        intro j
        cases j with
        | zero => rw [List.take_zero, RE.deps]; omega
        | succ j => rw [List.take_succ_cons, RE.deps, RE.deps]; have := ih j; omega
      have := this e.parts k
      omega
     refine ⟨by omega, by omega, by omega, by omega⟩
    obtain ⟨ps, hps⟩ : ∃ z, z = p.size := ⟨_, rfl⟩
    obtain ⟨pd, hpd⟩ : ∃ z, z = p.dep := ⟨_, rfl⟩
    rw [← hps, ← hpd] at hpz
    have HPZ := Lib.hid (And.intro hps hpd)
    obtain ⟨z1, z2, z3, z4⟩ := hpz
    clear hcal hp hbb hx1' hx2' hbl hbel hps hpd
    go_wp2_with fail
    refine (HCAL.out _ (by exact HBE.out)).mono ?_
    rintro x w3 ⟨rfl, hb3⟩
    rw [← HPZ.out.1, ← HPZ.out.2]
    have g2 := cell_later hb3 e2
    have HB3 := Lib.hid (bel_then HBE.out hb3)
    have hwa : IntKind.i64.wrap ((m : Int) + (ps : Int)) = ((m + ps : Nat) : Int) := by rw [IntWalk.i64_in _ (by omega)]; omega
    clear hb3 e2 k0 k1 k2
    rcases Nat.lt_or_ge d pd with hdp | hdp
    · have hmx : max (d : Int) (pd : Int) = (pd : Int) := by omega
      go_wp2_with fail
      go_roundg g
      case measure => omega
      case rel =>
       refine ⟨k + 1, by omega, by simp, ?_, ?_, HB3.out, g2⟩
       · rw [RE.take_snoc HP.out, RE.sizes_snoc]; have := HM.out.1; have := HPZ.out.1; first | (congr 1; omega) | (simp; omega)
       · rw [RE.take_snoc HP.out, RE.deps_snoc]; have := HM.out.2; have := HPZ.out.2; first | (congr 1; omega) | (simp; omega)
    · have hmx : max (d : Int) (pd : Int) = (d : Int) := by omega
      go_wp2_with fail
      go_roundg g
      case measure => omega
      case rel =>
       refine ⟨k + 1, by omega, by simp, ?_, ?_, HB3.out, g2⟩
       · rw [RE.take_snoc HP.out, RE.sizes_snoc]; have := HM.out.1; have := HPZ.out.1; first | (congr 1; omega) | (simp; omega)
       · rw [RE.take_snoc HP.out, RE.deps_snoc]; have := HM.out.2; have := HPZ.out.2; first | (congr 1; omega) | (simp; omega)
theorem eCount_any (w0 : World) (e : RE) (sv lv : Value) (w : World) (h9 : e.size ≤ 1000) (hf : e.Fit) (hr : ReIs w0 e sv lv) (hb0 : Below w0.heap.size w0 w) :
 Calls Tryz.prog 63 #[.agg #[.int .i64 e.kind, sv, lv]] w fun x w' => x = .returned (.tuple #[.int .i64 (e.size : Nat), .int .i64 (e.dep : Nat)]) ∧ Below w.heap.size w w' := by
 obtain ⟨⟨o1, q1, rfl⟩, ⟨o2, q2, rfl⟩⟩ := hr.form
 have hc := fun w' (hb : Below w.heap.size w w') => ecnt_all w0 e.size e _ _ w' (Nat.le_refl _) h9 hf hr (bel_then hb0 hb)
 have HC := Lib.hid hc
 clear hc hr hf h9
 obtain ⟨m, hm⟩ : ∃ m, m = e.size := ⟨_, rfl⟩
 obtain ⟨d, hd⟩ : ∃ m, m = e.dep := ⟨_, rfl⟩
 rw [← hm, ← hd] at HC ⊢
 clear hm hd
 go_enter Tryz.func63, Tryz.ntmps63
 go_wp2_with fail
 refine (HC.out _ (bel_new (Below.refl _ _) _)).mono ?_
 rintro x w2 ⟨rfl, hb2⟩
 have HX := Lib.hid (bel_then (bel_new (Below.refl w.heap.size w) _) hb2)
 clear hb2
 go_wp2_with fail
 go_ret2
 exact ⟨rfl, HX.out⟩
theorem RE.drop_at {l : List RE} {k : Nat} {x : RE} (h : l[k]? = some x) : l.drop k = x :: l.drop (k + 1) := by
 obtain ⟨h1, rfl⟩ := List.getElem?_eq_some_iff.1 h; exact List.drop_eq_getElem_cons h1
def PrtIh (w0 : World) (N : Nat) : Prop := ∀ (e : RE) (sv lv : Value) (w : World), e.size ≤ N → e.Fit → ReIs w0 e sv lv → Below w0.heap.size w0 w →
 Calls Tryz.prog 64 #[.agg #[.int .i64 e.kind, sv, lv]] w fun x w' => x = .returned (.bool e.prt) ∧ Below w.heap.size w w'
theorem kcases (k : Int) : (k = 0 ∨ k = 1 ∨ k = 2 ∨ k = 3 ∨ k = 4 ∨ k = 5) ∨ ((k == 0) = false ∧ (k == 1) = false ∧ (k == 2) = false ∧ (k == 3) = false ∧ (k == 4) = false ∧ (k == 5) = false) := by
 by_cases h0 : k = 0
 · exact .inl (.inl h0)
 by_cases h1 : k = 1
 · exact .inl (.inr (.inl h1))
 by_cases h2 : k = 2
 · exact .inl (.inr (.inr (.inl h2)))
 by_cases h3 : k = 3
 · exact .inl (.inr (.inr (.inr (.inl h3))))
 by_cases h4 : k = 4
 · exact .inl (.inr (.inr (.inr (.inr (.inl h4)))))
 by_cases h5 : k = 5
 · exact .inl (.inr (.inr (.inr (.inr (.inr h5)))))
 exact .inr ⟨by simpa using h0, by simpa using h1, by simpa using h2, by simpa using h3, by simpa using h4, by simpa using h5⟩
theorem prt_all (w0 : World) : ∀ N, PrtIh w0 N := by
 intro N
 induction N with
 | zero => intro e sv lv w hs; have := e.size_pos; omega
 | succ N ih =>
  intro e sv lv w hs hf hr hb0
  obtain ⟨⟨o1, q1, rfl⟩, -⟩ := hr.form
  have hset := hr.set
  obtain ⟨o2, q2, c1, c2, rfl, hall⟩ := hr.all
  have hF := hf.sets
  have hin : ∀ (i : Nat) (p : RE) (w' : World), e.parts[i]? = some p → Below w.heap.size w w' → Calls Tryz.prog 64 #[.agg #[.int .i64 p.kind, c1 i, c2 i]] w' fun x w'' => x = .returned (.bool p.prt) ∧ Below w'.heap.size w' w'' := by
   intro i p w' hp hb
   exact ih p _ _ w' (by have := RE.size_part hp; omega) (hf.part hp) (hall i p hp).1 (bel_then hb0 hb)
  have hmay := fun w' (hb : Below w.heap.size w w') => refMay_any e.set (.slice o1 e.set.length q1) w' (hset.below (bel_then hb0 hb)) hF.1 (by omega)
  have hsh : e.shp = if e.kind = 2 then decide (1 ≤ e.set.length) && (decide (e.set.length ≤ 20) && (mayB e.set && decide (e.parts.length = 0)))
   else if 0 < e.set.length then false
   else if e.kind = 0 ∨ e.kind = 1 then decide (e.parts.length = 0)
   else if e.kind = 5 then decide (e.parts.length = 1)
   else if e.kind = 3 ∨ e.kind = 4 then decide (e.parts.length = 2)
   else false := rfl
  have hpr := RE.prt_eq e
  obtain ⟨mb, hmb⟩ : ∃ x, x = mayB e.set := ⟨_, rfl⟩
  obtain ⟨k, hk⟩ : ∃ x, x = e.kind := ⟨_, rfl⟩
  obtain ⟨n, hn⟩ : ∃ x, x = e.set.length := ⟨_, rfl⟩
  obtain ⟨m, hm0⟩ : ∃ x, x = e.parts.length := ⟨_, rfl⟩
  obtain ⟨r, hr9⟩ : ∃ x, x = e.prt := ⟨_, rfl⟩
  rw [← hmb, ← hk, ← hn, ← hm0] at hsh
  rw [← hr9] at hpr ⊢
  rw [← hmb, ← hn] at hmay
  rw [← hk, ← hn, ← hm0]
  have hn9 : n ≤ 1000 := by omega
  have hm9 : m ≤ 1000 := by omega
  have HALL := Lib.hid hall
  have HIN := Lib.hid hin
  have HMAY := Lib.hid hmay
  have HSH := Lib.hid hsh
  have HPR := Lib.hid hpr
  have HM := Lib.hid hm0
  have HB0 := Lib.hid hb0
  have HB1 := Lib.hid (fun (x : Obj) => bel_new (Below.refl w.heap.size w) x)
  clear hall hin hmay hsh hpr hm0 hmb hk hn hr9 hset hF hr hf hb0 ih hs
  rcases kcases k with h | ⟨t0, t1, t2, t3, t4, t5⟩
  rcases h with rfl | rfl | rfl | rfl | rfl | rfl
  · by_cases hm : m = 0
    · subst hm
      have m1 : ((0 : Int) != 0) = false := by decide
      by_cases n0 : 0 < n
      · have d0 : decide ((0 : Int) < (n : Int)) = true := by simp; omega
        have d9 : decide (0 < n) = true := by simp; omega
        have HX := Lib.hid (show r = false by rw [HPR.out, HSH.out, if_pos n0]; rfl)
        clear n0
        go_enter Tryz.func64, Tryz.ntmps64
        go_wp2_with fail
        go_ret
        exact ⟨by rw [HX.out]; rfl, HB1.out _⟩
      have d0 : decide ((0 : Int) < (n : Int)) = false := by simp; omega
      have d9 : decide (0 < n) = false := by simp; omega
      have HX := Lib.hid (show r = RE.prtL e.parts by rw [HPR.out, HSH.out, if_neg n0]; simp [← HM.out])
      clear n0
      have HX2 := Lib.hid (show r = true by rw [HX.out, List.eq_nil_of_length_eq_zero (l := e.parts) (by have := HM.out; omega), RE.prtL_nil])
      go_enter Tryz.func64, Tryz.ntmps64
      go_wp2_with fail
      go_loopg [4] 0 (fun g s4 wx => s4 = .int .i64 0 ∧ Below w.heap.size w wx)
      case atStart => exact ⟨rfl, HB1.out _⟩
      case round =>
       obtain ⟨rfl, hbel⟩ := hrel
       have HBE := Lib.hid hbel
       clear hbel
       go_wp2_with fail
       go_ret
       exact ⟨by rw [HX2.out]; rfl, HBE.out⟩
    · have m1 : ((m : Int) != 0) = true := by simp; omega
      have HX := Lib.hid (show r = false by rw [HPR.out, HSH.out]; simp [hm, ← HM.out])
      go_enter Tryz.func64, Tryz.ntmps64
      go_wp2_with fail
      go_ret
      exact ⟨by rw [HX.out]; rfl, HB1.out _⟩
  · by_cases hm : m = 0
    · subst hm
      have m1 : ((0 : Int) != 0) = false := by decide
      by_cases n0 : 0 < n
      · have d0 : decide ((0 : Int) < (n : Int)) = true := by simp; omega
        have d9 : decide (0 < n) = true := by simp; omega
        have HX := Lib.hid (show r = false by rw [HPR.out, HSH.out, if_pos n0]; rfl)
        clear n0
        go_enter Tryz.func64, Tryz.ntmps64
        go_wp2_with fail
        go_ret
        exact ⟨by rw [HX.out]; rfl, HB1.out _⟩
      have d0 : decide ((0 : Int) < (n : Int)) = false := by simp; omega
      have d9 : decide (0 < n) = false := by simp; omega
      have HX := Lib.hid (show r = RE.prtL e.parts by rw [HPR.out, HSH.out, if_neg n0]; simp [← HM.out])
      clear n0
      have HX2 := Lib.hid (show r = true by rw [HX.out, List.eq_nil_of_length_eq_zero (l := e.parts) (by have := HM.out; omega), RE.prtL_nil])
      go_enter Tryz.func64, Tryz.ntmps64
      go_wp2_with fail
      go_loopg [4] 0 (fun g s4 wx => s4 = .int .i64 0 ∧ Below w.heap.size w wx)
      case atStart => exact ⟨rfl, HB1.out _⟩
      case round =>
       obtain ⟨rfl, hbel⟩ := hrel
       have HBE := Lib.hid hbel
       clear hbel
       go_wp2_with fail
       go_ret
       exact ⟨by rw [HX2.out]; rfl, HBE.out⟩
    · have m1 : ((m : Int) != 0) = true := by simp; omega
      have HX := Lib.hid (show r = false by rw [HPR.out, HSH.out]; simp [hm, ← HM.out])
      go_enter Tryz.func64, Tryz.ntmps64
      go_wp2_with fail
      go_ret
      exact ⟨by rw [HX.out]; rfl, HB1.out _⟩
  · by_cases n1 : n < 1
    · have d1 : decide ((n : Int) < 1) = true := by simp; omega
      have HX := Lib.hid (show r = false by rw [HPR.out, HSH.out, if_pos rfl, decide_eq_false (show ¬ 1 ≤ n by omega)]; rfl)
      clear n1
      go_enter Tryz.func64, Tryz.ntmps64
      go_wp2_with fail
      go_ret
      exact ⟨by rw [HX.out]; rfl, HB1.out _⟩
    have d1 : decide ((n : Int) < 1) = false := by simp; omega
    by_cases n2 : 20 < n
    · have d2 : decide ((20 : Int) < (n : Int)) = true := by simp; omega
      have HX := Lib.hid (show r = false by rw [HPR.out, HSH.out, if_pos rfl, decide_eq_false (show ¬ n ≤ 20 by omega)]; simp)
      clear n1 n2
      go_enter Tryz.func64, Tryz.ntmps64
      go_wp2_with fail
      go_ret
      exact ⟨by rw [HX.out]; rfl, HB1.out _⟩
    have d2 : decide ((20 : Int) < (n : Int)) = false := by simp; omega
    have HS2 := Lib.hid (show e.shp = (mb && decide (m = 0)) by rw [HSH.out, if_pos rfl, decide_eq_true (show 1 ≤ n by omega), decide_eq_true (show n ≤ 20 by omega)]; simp)
    clear n1 n2
    go_enter Tryz.func64, Tryz.ntmps64
    go_wp2_with fail
    refine (HMAY.out _ (HB1.out _)).mono ?_
    rintro x w3 ⟨rfl, hb3⟩
    have g2 : w3.cell? ⟨w.heap.size, 2, none⟩ = some (.slice o2 m q2) := cell_later hb3 (by simp [go_sem])
    have g0 : w3.cell? ⟨w.heap.size, 0, none⟩ = some (.int .i64 2) := cell_later hb3 (by simp [go_sem])
    have HB3 := Lib.hid (bel_then (HB1.out _) hb3)
    clear hb3
    cases mb with
    | false =>
     have HX := Lib.hid (show r = false by rw [HPR.out, HS2.out]; rfl)
     go_wp2_with fail
     go_ret
     exact ⟨by rw [HX.out]; rfl, HB3.out⟩
    | true =>
     by_cases hm : m = 0
     · subst hm
       have HX2 := Lib.hid (show r = true by rw [HPR.out, HS2.out, List.eq_nil_of_length_eq_zero (l := e.parts) (by have := HM.out; omega), RE.prtL_nil]; rfl)
       go_wp2_with fail
       go_loopg [4] 0 (fun g s4 wx => s4 = .int .i64 0 ∧ Below w.heap.size w wx)
       case atStart => exact ⟨rfl, HB3.out⟩
       case round =>
        obtain ⟨rfl, hbel⟩ := hrel
        have HBE := Lib.hid hbel
        clear hbel
        go_wp2_with fail
        go_ret
        exact ⟨by rw [HX2.out]; rfl, HBE.out⟩
     · have m1 : ((m : Int) != 0) = true := by simp; omega
       have HX := Lib.hid (show r = false by rw [HPR.out, HS2.out, decide_eq_false hm]; rfl)
       go_wp2_with fail
       go_ret
       exact ⟨by rw [HX.out]; rfl, HB3.out⟩
  · by_cases hm : m = 2
    · subst hm
      have m1 : ((2 : Int) != 2) = false := by decide
      by_cases n0 : 0 < n
      · have d0 : decide ((0 : Int) < (n : Int)) = true := by simp; omega
        have d9 : decide (0 < n) = true := by simp; omega
        have HX := Lib.hid (show r = false by rw [HPR.out, HSH.out, if_pos n0]; rfl)
        clear n0
        go_enter Tryz.func64, Tryz.ntmps64
        go_wp2_with fail
        go_ret
        exact ⟨by rw [HX.out]; rfl, HB1.out _⟩
      have d0 : decide ((0 : Int) < (n : Int)) = false := by simp; omega
      have d9 : decide (0 < n) = false := by simp; omega
      have HX := Lib.hid (show r = RE.prtL e.parts by rw [HPR.out, HSH.out, if_neg n0]; simp [← HM.out])
      clear n0
      obtain ⟨wB, hwB⟩ : ∃ wB, wB = w.alloc (.cells #[.int .i64 3, .slice o1 n q1, .slice o2 2 q2] 35) := ⟨_, rfl⟩
      have HWB := Lib.hid (show Below w.heap.size w wB ∧ wB.cell? ⟨w.heap.size, 2, none⟩ = some (.slice o2 2 q2) by rw [hwB]; exact ⟨HB1.out _, by simp [go_sem]⟩)
      go_enter Tryz.func64, Tryz.ntmps64
      go_wp2_with fail
      rw [← hwB]
      clear hwB
      go_loopg [4] 2 (fun g s4 wx => ∃ j : Nat, j + g = 2 ∧ s4 = .int .i64 (j : Int) ∧ RE.prtL e.parts = RE.prtL (e.parts.drop j) ∧ Below w.heap.size w wx ∧ wx.cell? ⟨w.heap.size, 2, none⟩ = some (.slice o2 2 q2))
      case atStart => exact ⟨0, by omega, rfl, by rw [List.drop_zero], HWB.out.1, HWB.out.2⟩
      case round =>
       obtain ⟨j, hjg, rfl, hpe, hbel, e2⟩ := hrel
       have HBE := Lib.hid hbel
       have HPJ := Lib.hid hpe
       clear hpe
       cases gk with
       | zero =>
        obtain rfl : j = 2 := by omega
        have HD := Lib.hid (show r = true by rw [HX.out, HPJ.out, List.drop_of_length_le (by have := HM.out; omega), RE.prtL_nil])
        clear hbel
        go_wp2_with fail
        go_ret
        exact ⟨by rw [HD.out]; rfl, HBE.out⟩
       | succ g =>
        have hj : j < 2 := by omega
        have hx1 : decide ((j : Int) < 2) = true := by simp; omega
        have hx2 : decide (j < 2) = true := by simpa using hj
        have hk1 : (0 : Int) ≤ (j : Int) := by omega
        have hk2 : (j : Int) < 2 := by omega
        obtain ⟨p, hp⟩ : ∃ p, e.parts[j]? = some p := ⟨_, List.getElem?_eq_getElem (by have := HM.out; omega)⟩
        obtain ⟨-, b0, off, rfl, hbl, k0, k1, k2⟩ := HALL.out j p hp
        have hbb := bel_then HB0.out hbel
        rw [← hbb.cell hbl] at k0 k1 k2
        have hcal := fun w' hb' => HIN.out j p w' hp hb'
        have HPD := Lib.hid (show RE.prtL e.parts = (p.prt && RE.prtL (e.parts.drop (j + 1))) by rw [HPJ.out, RE.drop_at hp, RE.prtL_cons])
        obtain ⟨x1, hx1'⟩ : ∃ x, x = c1 j := ⟨_, rfl⟩
        obtain ⟨x2, hx2'⟩ : ∃ x, x = c2 j := ⟨_, rfl⟩
        obtain ⟨x0, hx0'⟩ : ∃ x, x = p.kind := ⟨_, rfl⟩
        obtain ⟨b, hb9⟩ : ∃ x, x = p.prt := ⟨_, rfl⟩
        rw [← hx1', ← hx2', ← hx0', ← hb9] at hcal
        rw [← hx0'] at k0
        rw [← hx1'] at k1
        rw [← hx2'] at k2
        rw [← hb9] at HPD
        have HCAL := Lib.hid hcal
        clear hcal hp hbb hx1' hx2' hx0' hb9 hbl hbel
        go_wp2_with fail
        refine (HCAL.out _ (by exact HBE.out)).mono ?_
        rintro x w3 ⟨rfl, hb3⟩
        have g2 := cell_later hb3 e2
        have HB3 := Lib.hid (bel_then HBE.out hb3)
        clear hb3 e2 k0 k1 k2
        cases b with
        | true =>
         go_wp2_with fail
         go_roundg g
         case measure => omega
         case rel => exact ⟨j + 1, by omega, by simp, by rw [HPD.out]; rfl, HB3.out, g2⟩
        | false =>
         have HZ := Lib.hid (show r = false by rw [HX.out, HPD.out]; rfl)
         go_wp2_with fail
         go_ret
         exact ⟨by rw [HZ.out]; rfl, HB3.out⟩
    · have m1 : ((m : Int) != 2) = true := by simp; omega
      have HX := Lib.hid (show r = false by rw [HPR.out, HSH.out]; simp [hm, ← HM.out])
      go_enter Tryz.func64, Tryz.ntmps64
      go_wp2_with fail
      go_ret
      exact ⟨by rw [HX.out]; rfl, HB1.out _⟩
  · by_cases hm : m = 2
    · subst hm
      have m1 : ((2 : Int) != 2) = false := by decide
      by_cases n0 : 0 < n
      · have d0 : decide ((0 : Int) < (n : Int)) = true := by simp; omega
        have d9 : decide (0 < n) = true := by simp; omega
        have HX := Lib.hid (show r = false by rw [HPR.out, HSH.out, if_pos n0]; rfl)
        clear n0
        go_enter Tryz.func64, Tryz.ntmps64
        go_wp2_with fail
        go_ret
        exact ⟨by rw [HX.out]; rfl, HB1.out _⟩
      have d0 : decide ((0 : Int) < (n : Int)) = false := by simp; omega
      have d9 : decide (0 < n) = false := by simp; omega
      have HX := Lib.hid (show r = RE.prtL e.parts by rw [HPR.out, HSH.out, if_neg n0]; simp [← HM.out])
      clear n0
      obtain ⟨wB, hwB⟩ : ∃ wB, wB = w.alloc (.cells #[.int .i64 4, .slice o1 n q1, .slice o2 2 q2] 35) := ⟨_, rfl⟩
      have HWB := Lib.hid (show Below w.heap.size w wB ∧ wB.cell? ⟨w.heap.size, 2, none⟩ = some (.slice o2 2 q2) by rw [hwB]; exact ⟨HB1.out _, by simp [go_sem]⟩)
      go_enter Tryz.func64, Tryz.ntmps64
      go_wp2_with fail
      rw [← hwB]
      clear hwB
      go_loopg [4] 2 (fun g s4 wx => ∃ j : Nat, j + g = 2 ∧ s4 = .int .i64 (j : Int) ∧ RE.prtL e.parts = RE.prtL (e.parts.drop j) ∧ Below w.heap.size w wx ∧ wx.cell? ⟨w.heap.size, 2, none⟩ = some (.slice o2 2 q2))
      case atStart => exact ⟨0, by omega, rfl, by rw [List.drop_zero], HWB.out.1, HWB.out.2⟩
      case round =>
       obtain ⟨j, hjg, rfl, hpe, hbel, e2⟩ := hrel
       have HBE := Lib.hid hbel
       have HPJ := Lib.hid hpe
       clear hpe
       cases gk with
       | zero =>
        obtain rfl : j = 2 := by omega
        have HD := Lib.hid (show r = true by rw [HX.out, HPJ.out, List.drop_of_length_le (by have := HM.out; omega), RE.prtL_nil])
        clear hbel
        go_wp2_with fail
        go_ret
        exact ⟨by rw [HD.out]; rfl, HBE.out⟩
       | succ g =>
        have hj : j < 2 := by omega
        have hx1 : decide ((j : Int) < 2) = true := by simp; omega
        have hx2 : decide (j < 2) = true := by simpa using hj
        have hk1 : (0 : Int) ≤ (j : Int) := by omega
        have hk2 : (j : Int) < 2 := by omega
        obtain ⟨p, hp⟩ : ∃ p, e.parts[j]? = some p := ⟨_, List.getElem?_eq_getElem (by have := HM.out; omega)⟩
        obtain ⟨-, b0, off, rfl, hbl, k0, k1, k2⟩ := HALL.out j p hp
        have hbb := bel_then HB0.out hbel
        rw [← hbb.cell hbl] at k0 k1 k2
        have hcal := fun w' hb' => HIN.out j p w' hp hb'
        have HPD := Lib.hid (show RE.prtL e.parts = (p.prt && RE.prtL (e.parts.drop (j + 1))) by rw [HPJ.out, RE.drop_at hp, RE.prtL_cons])
        obtain ⟨x1, hx1'⟩ : ∃ x, x = c1 j := ⟨_, rfl⟩
        obtain ⟨x2, hx2'⟩ : ∃ x, x = c2 j := ⟨_, rfl⟩
        obtain ⟨x0, hx0'⟩ : ∃ x, x = p.kind := ⟨_, rfl⟩
        obtain ⟨b, hb9⟩ : ∃ x, x = p.prt := ⟨_, rfl⟩
        rw [← hx1', ← hx2', ← hx0', ← hb9] at hcal
        rw [← hx0'] at k0
        rw [← hx1'] at k1
        rw [← hx2'] at k2
        rw [← hb9] at HPD
        have HCAL := Lib.hid hcal
        clear hcal hp hbb hx1' hx2' hx0' hb9 hbl hbel
        go_wp2_with fail
        refine (HCAL.out _ (by exact HBE.out)).mono ?_
        rintro x w3 ⟨rfl, hb3⟩
        have g2 := cell_later hb3 e2
        have HB3 := Lib.hid (bel_then HBE.out hb3)
        clear hb3 e2 k0 k1 k2
        cases b with
        | true =>
         go_wp2_with fail
         go_roundg g
         case measure => omega
         case rel => exact ⟨j + 1, by omega, by simp, by rw [HPD.out]; rfl, HB3.out, g2⟩
        | false =>
         have HZ := Lib.hid (show r = false by rw [HX.out, HPD.out]; rfl)
         go_wp2_with fail
         go_ret
         exact ⟨by rw [HZ.out]; rfl, HB3.out⟩
    · have m1 : ((m : Int) != 2) = true := by simp; omega
      have HX := Lib.hid (show r = false by rw [HPR.out, HSH.out]; simp [hm, ← HM.out])
      go_enter Tryz.func64, Tryz.ntmps64
      go_wp2_with fail
      go_ret
      exact ⟨by rw [HX.out]; rfl, HB1.out _⟩
  · by_cases hm : m = 1
    · subst hm
      have m1 : ((1 : Int) != 1) = false := by decide
      by_cases n0 : 0 < n
      · have d0 : decide ((0 : Int) < (n : Int)) = true := by simp; omega
        have d9 : decide (0 < n) = true := by simp; omega
        have HX := Lib.hid (show r = false by rw [HPR.out, HSH.out, if_pos n0]; rfl)
        clear n0
        go_enter Tryz.func64, Tryz.ntmps64
        go_wp2_with fail
        go_ret
        exact ⟨by rw [HX.out]; rfl, HB1.out _⟩
      have d0 : decide ((0 : Int) < (n : Int)) = false := by simp; omega
      have d9 : decide (0 < n) = false := by simp; omega
      have HX := Lib.hid (show r = RE.prtL e.parts by rw [HPR.out, HSH.out, if_neg n0]; simp [← HM.out])
      clear n0
      obtain ⟨wB, hwB⟩ : ∃ wB, wB = w.alloc (.cells #[.int .i64 5, .slice o1 n q1, .slice o2 1 q2] 35) := ⟨_, rfl⟩
      have HWB := Lib.hid (show Below w.heap.size w wB ∧ wB.cell? ⟨w.heap.size, 2, none⟩ = some (.slice o2 1 q2) by rw [hwB]; exact ⟨HB1.out _, by simp [go_sem]⟩)
      go_enter Tryz.func64, Tryz.ntmps64
      go_wp2_with fail
      rw [← hwB]
      clear hwB
      go_loopg [4] 1 (fun g s4 wx => ∃ j : Nat, j + g = 1 ∧ s4 = .int .i64 (j : Int) ∧ RE.prtL e.parts = RE.prtL (e.parts.drop j) ∧ Below w.heap.size w wx ∧ wx.cell? ⟨w.heap.size, 2, none⟩ = some (.slice o2 1 q2))
      case atStart => exact ⟨0, by omega, rfl, by rw [List.drop_zero], HWB.out.1, HWB.out.2⟩
      case round =>
       obtain ⟨j, hjg, rfl, hpe, hbel, e2⟩ := hrel
       have HBE := Lib.hid hbel
       have HPJ := Lib.hid hpe
       clear hpe
       cases gk with
       | zero =>
        obtain rfl : j = 1 := by omega
        have HD := Lib.hid (show r = true by rw [HX.out, HPJ.out, List.drop_of_length_le (by have := HM.out; omega), RE.prtL_nil])
        clear hbel
        go_wp2_with fail
        go_ret
        exact ⟨by rw [HD.out]; rfl, HBE.out⟩
       | succ g =>
        have hj : j < 1 := by omega
        have hx1 : decide ((j : Int) < 1) = true := by simp; omega
        have hx2 : decide (j < 1) = true := by simpa using hj
        have hk1 : (0 : Int) ≤ (j : Int) := by omega
        have hk2 : (j : Int) < 1 := by omega
        obtain ⟨p, hp⟩ : ∃ p, e.parts[j]? = some p := ⟨_, List.getElem?_eq_getElem (by have := HM.out; omega)⟩
        obtain ⟨-, b0, off, rfl, hbl, k0, k1, k2⟩ := HALL.out j p hp
        have hbb := bel_then HB0.out hbel
        rw [← hbb.cell hbl] at k0 k1 k2
        have hcal := fun w' hb' => HIN.out j p w' hp hb'
        have HPD := Lib.hid (show RE.prtL e.parts = (p.prt && RE.prtL (e.parts.drop (j + 1))) by rw [HPJ.out, RE.drop_at hp, RE.prtL_cons])
        obtain ⟨x1, hx1'⟩ : ∃ x, x = c1 j := ⟨_, rfl⟩
        obtain ⟨x2, hx2'⟩ : ∃ x, x = c2 j := ⟨_, rfl⟩
        obtain ⟨x0, hx0'⟩ : ∃ x, x = p.kind := ⟨_, rfl⟩
        obtain ⟨b, hb9⟩ : ∃ x, x = p.prt := ⟨_, rfl⟩
        rw [← hx1', ← hx2', ← hx0', ← hb9] at hcal
        rw [← hx0'] at k0
        rw [← hx1'] at k1
        rw [← hx2'] at k2
        rw [← hb9] at HPD
        have HCAL := Lib.hid hcal
        clear hcal hp hbb hx1' hx2' hx0' hb9 hbl hbel
        go_wp2_with fail
        refine (HCAL.out _ (by exact HBE.out)).mono ?_
        rintro x w3 ⟨rfl, hb3⟩
        have g2 := cell_later hb3 e2
        have HB3 := Lib.hid (bel_then HBE.out hb3)
        clear hb3 e2 k0 k1 k2
        cases b with
        | true =>
         go_wp2_with fail
         go_roundg g
         case measure => omega
         case rel => exact ⟨j + 1, by omega, by simp, by rw [HPD.out]; rfl, HB3.out, g2⟩
        | false =>
         have HZ := Lib.hid (show r = false by rw [HX.out, HPD.out]; rfl)
         go_wp2_with fail
         go_ret
         exact ⟨by rw [HZ.out]; rfl, HB3.out⟩
    · have m1 : ((m : Int) != 1) = true := by simp; omega
      have HX := Lib.hid (show r = false by rw [HPR.out, HSH.out]; simp [hm, ← HM.out])
      go_enter Tryz.func64, Tryz.ntmps64
      go_wp2_with fail
      go_ret
      exact ⟨by rw [HX.out]; rfl, HB1.out _⟩
  · have HX := Lib.hid (show r = false by
     rw [HPR.out, HSH.out]
     have z0 : ¬ k = 0 := by simpa using t0
     have z1 : ¬ k = 1 := by simpa using t1
     have z2 : ¬ k = 2 := by simpa using t2
     have z3 : ¬ k = 3 := by simpa using t3
     have z4 : ¬ k = 4 := by simpa using t4
     have z5 : ¬ k = 5 := by simpa using t5
     simp [z0, z1, z2, z3, z4, z5])
    go_enter Tryz.func64, Tryz.ntmps64
    go_wp2_with fail
    go_ret
    exact ⟨by rw [HX.out]; rfl, HB1.out _⟩
theorem rMay_any (w0 : World) (e : RE) (sv lv : Value) (w : World) (h9 : e.size ≤ 1000) (hf : e.Fit) (hr : ReIs w0 e sv lv) (hb0 : Below w0.heap.size w0 w) :
 Calls Tryz.prog 26 #[.agg #[.int .i64 e.kind, sv, lv]] w fun x w' => x = .returned (.bool e.may) ∧ Below w.heap.size w w' := by
 obtain ⟨⟨o1, q1, rfl⟩, ⟨o2, q2, rfl⟩⟩ := hr.form
 have hc := fun w' (hb : Below w.heap.size w w') => eCount_any w0 e _ _ w' h9 hf hr (bel_then hb0 hb)
 have hp := fun w' (hb : Below w.heap.size w w') => prt_all w0 e.size e _ _ w' (Nat.le_refl _) hf hr (bel_then hb0 hb)
 have hm0 := RE.may_dec e
 have hd0 := RE.dep_le e.size e (Nat.le_refl _)
 obtain ⟨m, hm⟩ : ∃ m, m = e.size := ⟨_, rfl⟩
 obtain ⟨d, hd⟩ : ∃ m, m = e.dep := ⟨_, rfl⟩
 obtain ⟨b, hb⟩ : ∃ m, m = e.prt := ⟨_, rfl⟩
 obtain ⟨k, hk⟩ : ∃ m, m = e.kind := ⟨_, rfl⟩
 obtain ⟨n1, hn1⟩ : ∃ m, m = e.set.length := ⟨_, rfl⟩
 obtain ⟨n2, hn2⟩ : ∃ m, m = e.parts.length := ⟨_, rfl⟩
 rw [← hm, ← hd, ← hb] at hm0
 rw [← hm, ← hd, ← hk, ← hn1, ← hn2] at hc
 rw [← hb, ← hk, ← hn1, ← hn2] at hp
 rw [← hk, ← hn1, ← hn2]
 have hm9 : m ≤ 1000 := by omega
 have hd9 : d ≤ 1000 := by omega
 have HC := Lib.hid hc
 have HP := Lib.hid hp
 have HM := Lib.hid hm0
 clear hc hp hm0 hr hf h9 hm hd hb hd0 hk hn1 hn2
 go_enter Tryz.func26, Tryz.ntmps26
 go_wp2_with fail
 refine (HC.out _ (bel_new (Below.refl _ _) _)).mono ?_
 rintro x w2 ⟨rfl, hb2⟩
 have g0 : w2.cell? ⟨w.heap.size, 0, none⟩ = some (.int .i64 k) := cell_later hb2 (by simp [go_sem])
 have g1 : w2.cell? ⟨w.heap.size, 1, none⟩ = some (.slice o1 n1 q1) := cell_later hb2 (by simp [go_sem])
 have g2 : w2.cell? ⟨w.heap.size, 2, none⟩ = some (.slice o2 n2 q2) := cell_later hb2 (by simp [go_sem])
 have HB := Lib.hid (bel_then (bel_new (Below.refl w.heap.size w) _) hb2)
 clear hb2
 by_cases h1 : m ≤ 60
 · have d1 : decide ((m : Int) ≤ 60) = true := by simp; omega
   have d2 : decide (m ≤ 60) = true := by simpa using h1
   by_cases h2 : d ≤ 12
   · have d3 : decide ((d : Int) ≤ 12) = true := by simp; omega
     have d4 : decide (d ≤ 12) = true := by simpa using h2
     have HX := Lib.hid (show e.may = b by rw [HM.out, d2, d4]; simp)
     clear h1 h2
     go_wp2_with fail
     refine (HP.out _ HB.out).mono ?_
     rintro x w3 ⟨rfl, hb3⟩
     have HB3 := Lib.hid (bel_then HB.out hb3)
     clear hb3
     go_wp2_with fail
     go_ret
     exact ⟨by rw [HX.out]; rfl, HB3.out⟩
   · have d3 : decide ((d : Int) ≤ 12) = false := by simp; omega
     have d4 : decide (d ≤ 12) = false := by simpa using h2
     have HX := Lib.hid (show e.may = false by rw [HM.out, d4]; simp)
     clear h1 h2
     go_wp2_with fail
     go_ret
     exact ⟨by rw [HX.out]; rfl, HB.out⟩
 · have d1 : decide ((m : Int) ≤ 60) = false := by simp; omega
   have d2 : decide (m ≤ 60) = false := by simpa using h1
   have HX := Lib.hid (show e.may = false by rw [HM.out, d2]; simp)
   clear h1
   go_wp2_with fail
   go_ret
   exact ⟨by rw [HX.out]; rfl, HB.out⟩
end Go.Proofs.YtfkmajjgkdjncaaGreatDoor

namespace Go.Proofs.YtfkmajjgkdjncaaGreatDoor
open Go.RowKit Ru
def hold (t : ByteArray) (m : Bool) : ByteArray := if m = true then (⟨#[40]⟩ ++ t) ++ ⟨#[41]⟩ else t
theorem hold_size (t : ByteArray) (m : Bool) : (hold t m).size ≤ t.size + 2 := by
 unfold hold
 split
 · rw [ByteArray.size_append, ByteArray.size_append]; show 1 + _ + 1 ≤ _; omega
 · omega
def nodeB (k : Int) (s : List (Int × Int)) (ks : List Int) (ts : List ByteArray) : ByteArray :=
 if k = 1 then ⟨#[40, 41]⟩
 else if k = 2 then setB s
 else if k = 3 then hold (ts.getD 0 ⟨#[]⟩) ([4].contains (ks.getD 0 0)) ++ hold (ts.getD 1 ⟨#[]⟩) ([4, 3].contains (ks.getD 1 0))
 else if k = 4 then (hold (ts.getD 0 ⟨#[]⟩) false ++ ⟨#[124]⟩) ++ hold (ts.getD 1 ⟨#[]⟩) ([4].contains (ks.getD 1 0))
 else if k = 5 then hold (ts.getD 0 ⟨#[]⟩) ([3, 4].contains (ks.getD 0 0)) ++ ⟨#[42]⟩
 else ⟨#[91, 93]⟩
namespace RE
mutual
def text : RE → ByteArray
 | .mk k s l => nodeB k s (l.map kind) (texts l)
def texts : List RE → List ByteArray
 | [] => []
 | e :: l => text e :: texts l
end
theorem texts_map (l : List RE) : texts l = l.map text := by
 induction l with
 | nil => rw [texts]; rfl
 | cons a l ih => rw [texts, ih]; rfl
theorem text_eq (e : RE) : e.text = nodeB e.kind e.set (e.parts.map kind) (e.parts.map text) := by
 cases e with
 | mk k s l => rw [text, texts_map]; rfl
theorem prt_shp {e : RE} (h : e.prt = true) : e.shp = true := by rw [prt_eq, Bool.and_eq_true] at h; exact h.1
theorem prt_part {e p : RE} {i : Nat} (h : e.prt = true) (hp : e.parts[i]? = some p) : p.prt = true := by
 rw [prt_eq, Bool.and_eq_true] at h
 have all : ∀ (l : List RE), prtL l = true → ∀ p ∈ l, p.prt = true := by
  intro l
  induction l with
  | nil => intro _ p hp; simp at hp
  | cons a l ih =>
   intro h p hp
   rw [prtL_cons, Bool.and_eq_true] at h
   rcases List.mem_cons.1 hp with rfl | hp
   · exact h.1
   · exact ih h.2 p hp
 exact all _ h.2 p (List.mem_of_getElem? hp)
theorem shp_cases {e : RE} (h : e.shp = true) : (e.kind = 0) ∨ (e.kind = 1) ∨ (e.kind = 2 ∧ e.set.length ≤ 20 ∧ mayB e.set = true) ∨ (e.kind = 3 ∧ e.parts.length = 2) ∨ (e.kind = 4 ∧ e.parts.length = 2) ∨ (e.kind = 5 ∧ e.parts.length = 1) := by
 unfold shp at h
 by_cases k2 : e.kind = 2
 · rw [if_pos k2] at h; simp at h; exact .inr (.inr (.inl ⟨k2, h.2.1, h.2.2.1⟩))
 · rw [if_neg k2] at h
   split at h
   · cases h
   · split at h
     · omega
     · split at h
       · rename_i k5; simp at h; omega
       · split at h
         · rename_i k34; simp at h; omega
         · cases h
end RE
theorem may_rok {l : List (Int × Int)} (h : mayB l = true) : ∀ x ∈ l, ROK x := by
 intro x hx
 obtain ⟨i, hi, rfl⟩ := List.getElem_of_mem hx
 have := ((mayB_iff l).1 h i hi).1
 have e : l.getD i (0, 0) = l[i] := by simp [List.getD, hi]
 rw [e] at this
 unfold okR at this
 simp [scal] at this
 unfold ROK
 omega
theorem re_size : ∀ (N : Nat) (e : RE), e.size ≤ N → e.prt = true → e.text.size ≤ 500 * e.size := by
 intro N
 induction N with
 | zero => intro e h; have := e.size_pos; omega
 | succ N ih =>
  intro e hs hp
  have hpos := e.size_pos
  have hpart : ∀ (i : Nat) (p : RE), e.parts[i]? = some p → p.text.size ≤ 500 * p.size := fun i p hip => ih p (by have := RE.size_part hip; omega) (RE.prt_part hp hip)
  have hsz : e.size = RE.sizes e.parts + 1 := by cases e; rw [RE.size_mk]; rfl
  rw [RE.text_eq]
  rcases RE.shp_cases (RE.prt_shp hp) with k | k | ⟨k, h1, h2⟩ | ⟨k, h1⟩ | ⟨k, h1⟩ | ⟨k, h1⟩
  all_goals (unfold nodeB; rw [k])
  · simp; show 2 ≤ _; omega
  · simp; show 2 ≤ _; omega
  · simp
    have := setB_size (may_rok h2)
    omega
  · match hl : e.parts, h1 with
    | [a, b], _ =>
     rw [hl] at hpart hsz
     have ha := hpart 0 a rfl
     have hb := hpart 1 b rfl
     rw [RE.sizes_cons, RE.sizes_cons, RE.sizes_nil] at hsz
     have x := hold_size a.text ([4].contains a.kind)
     have y := hold_size b.text ([4, 3].contains b.kind)
     simp at x y ⊢
     omega
  · match hl : e.parts, h1 with
    | [a, b], _ =>
     rw [hl] at hpart hsz
     have ha := hpart 0 a rfl
     have hb := hpart 1 b rfl
     rw [RE.sizes_cons, RE.sizes_cons, RE.sizes_nil] at hsz
     have x := hold_size a.text false
     have y := hold_size b.text ([4].contains b.kind)
     simp [ByteArray.size_append] at x y ⊢
     have : (⟨#[124]⟩ : ByteArray).size = 1 := rfl
     omega
  · match hl : e.parts, h1 with
    | [a], _ =>
     rw [hl] at hpart hsz
     have ha := hpart 0 a rfl
     rw [RE.sizes_cons, RE.sizes_nil] at hsz
     have x := hold_size a.text ([3, 4].contains a.kind)
     simp [ByteArray.size_append] at x ⊢
     have : (⟨#[42]⟩ : ByteArray).size = 1 := rfl
     omega
end Go.Proofs.YtfkmajjgkdjncaaGreatDoor

namespace Go.Proofs.YtfkmajjgkdjncaaGreatDoor
open Go.RowKit Ru
theorem cell3_of {w : World} {p : Nat} {a b c : Value} {t : TypeId} (h : w.heap[p]? = some (.cells #[a, b, c] t (0, 0))) : w.cell? ⟨p, 0, none⟩ = some a ∧ w.cell? ⟨p, 1, none⟩ = some b ∧ w.cell? ⟨p, 2, none⟩ = some c := by
 simp [World.cell?, h]
theorem box_kept {w w' : World} {o : Obj} (hb : Below (w.alloc o).heap.size (w.alloc o) w') : w'.heap[w.heap.size]? = some o := by
 rw [hb.block _ (by simp)]
 exact heap_alloc_new w o
end Go.Proofs.YtfkmajjgkdjncaaGreatDoor

namespace Go.Proofs.YtfkmajjgkdjncaaGreatDoor
open Go.RowKit Ru
theorem may_prt {e : RE} (h : e.may = true) : e.size ≤ 60 ∧ e.prt = true := by
 have := ((RE.vis_both e.size e (Nat.le_refl _) 0 1).1).1 h
 exact ⟨by omega, this.2.2⟩
def reP (e : RE) : ByteArray := if e.may = true then e.text else ⟨#[]⟩
end Go.Proofs.YtfkmajjgkdjncaaGreatDoor

namespace Go.Proofs.YtfkmajjgkdjncaaGreatDoor
open Go.RowKit Ru
end Go.Proofs.YtfkmajjgkdjncaaGreatDoor

namespace Go.Proofs.YtfkmajjgkdjncaaGreatDoor
open Go.RowKit Ru
namespace PT
mutual
def vsp : PT → Nat → Nat → Bool × Nat
 | .mk k ns es l, n, deep => if 60 < n + 1 ∨ 12 < deep ∨ shp (.mk k ns es l) = false then (false, n + 1) else vspL l (n + 1) (deep + 1)
def vspL : List PT → Nat → Nat → Bool × Nat
 | [], n, _ => (true, n)
 | e :: l, n, deep => if (vsp e n deep).1 = true then vspL l (vsp e n deep).2 deep else (false, (vsp e n deep).2)
end
end PT
end Go.Proofs.YtfkmajjgkdjncaaGreatDoor

namespace Go.Proofs.YtfkmajjgkdjncaaGreatDoor
open Go.RowKit Ru
def joinB (l : List ByteArray) : ByteArray := ⟨(Lib.join (l.map (·.data.toList)) [32]).toArray⟩
def brB (l : List ByteArray) : ByteArray := (⟨#[123]⟩ ++ joinB l) ++ ⟨#[125]⟩
def nodeP (k : Int) (ns es : List ByteArray) (ks : List Int) (ts : List ByteArray) : ByteArray :=
 if k = 2 then brB ns
 else if k = 4 then ⟨#[95]⟩
 else if k = 3 then ((((((⟨#[60]⟩ ++ joinB ns) ++ ⟨#[58]⟩) ++ hold (ts.getD 0 ⟨#[]⟩) (([] : List Int).contains (ks.getD 0 0))) ++ ⟨#[58]⟩) ++ joinB es) ++ ⟨#[62]⟩)
 else if k = 5 then (hold (ts.getD 0 ⟨#[]⟩) ([6].contains (ks.getD 0 0)) ++ ⟨#[32]⟩) ++ hold (ts.getD 1 ⟨#[]⟩) ([6, 5].contains (ks.getD 1 0))
 else if k = 6 then (hold (ts.getD 0 ⟨#[]⟩) (([] : List Int).contains (ks.getD 0 0)) ++ ⟨#[124]⟩) ++ hold (ts.getD 1 ⟨#[]⟩) ([6].contains (ks.getD 1 0))
 else if k = 7 then hold (ts.getD 0 ⟨#[]⟩) ([5, 6].contains (ks.getD 0 0)) ++ ⟨#[42]⟩
 else ⟨#[40, 41]⟩
namespace PT
mutual
def text : PT → ByteArray
 | .mk k ns es l => nodeP k ns es (l.map kind) (texts l)
def texts : List PT → List ByteArray
 | [] => []
 | e :: l => text e :: texts l
end
end PT
end Go.Proofs.YtfkmajjgkdjncaaGreatDoor

namespace Go.Proofs.YtfkmajjgkdjncaaGreatDoor
open Go.RowKit Ru
end Go.Proofs.YtfkmajjgkdjncaaGreatDoor

namespace Go.Proofs.YtfkmajjgkdjncaaGreatDoor
open Go.RowKit Ru
end Go.Proofs.YtfkmajjgkdjncaaGreatDoor

namespace Go.Proofs.YtfkmajjgkdjncaaGreatDoor
open Go.RowKit Ru
end Go.Proofs.YtfkmajjgkdjncaaGreatDoor

namespace Go.Proofs.YtfkmajjgkdjncaaGreatDoor
open Go.RowKit Ru
def decB (c : Int) : ByteArray := ⟨(Lib.decDigits c.toNat).toArray⟩
end Go.Proofs.YtfkmajjgkdjncaaGreatDoor

namespace Go.Proofs.YtfkmajjgkdjncaaGreatDoor
open Go.RowKit Ru
end Go.Proofs.YtfkmajjgkdjncaaGreatDoor

namespace Go.Proofs.YtfkmajjgkdjncaaGreatDoor
open Go.RowKit Ru
def kindB (k : Int) : ByteArray := if k = 0 then ⟨#[105, 110, 116]⟩ else if k = 1 then ⟨#[99, 97, 108, 108]⟩ else ⟨#[114, 101, 116]⟩
end Go.Proofs.YtfkmajjgkdjncaaGreatDoor

namespace Go.Proofs.YtfkmajjgkdjncaaGreatDoor
open Go.RowKit Ru
namespace RE
mutual
def nn : RE → Bool
 | .mk k s l => decide (k = 0) || nnL l
def nnL : List RE → Bool
 | [] => false
 | e :: l => nn e || nnL l
end
theorem nn_eq (e : RE) : e.nn = (decide (e.kind = 0) || nnL e.parts) := by cases e; rw [nn]; rfl
theorem nnL_iff (l : List RE) : nnL l = true ↔ ∃ e ∈ l, e.nn = true := by
 induction l with
 | nil => rw [nnL]; simp
 | cons a l ih => rw [nnL, Bool.or_eq_true, ih]; simp
theorem nnL_not {l : List RE} (h : ∀ i, i < l.length → ∀ p, l[i]? = some p → p.nn = false) : nnL l = false := by
 cases hb : nnL l with
 | false => rfl
 | true =>
  obtain ⟨e, he, h1⟩ := (nnL_iff l).1 hb
  obtain ⟨i, hi, rfl⟩ := List.getElem_of_mem he
  rw [h i hi _ (List.getElem?_eq_getElem hi)] at h1
  cases h1
end RE
end Go.Proofs.YtfkmajjgkdjncaaGreatDoor
