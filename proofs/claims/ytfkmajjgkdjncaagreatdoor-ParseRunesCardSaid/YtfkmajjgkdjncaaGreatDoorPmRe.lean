/- Merged. -/
import Derived.Test.YtfkmajjgkdjncaaGreatDoorChecked
import Derived.Test.YtfkmajjgkdjncaaGreatDoorProg
import Derived.WalkKit
import Derived.Lib.Hide
import Derived.Lib.SmallJoins
import Derived.IntWalk
import Derived.Deep.LoopGhost
import Derived.WalkLawsBesides
import Derived.Deep.DeepCutAuto
import Derived.Deep.CutBlock
import Derived.WalkSpells
import Derived.Lib.EndianBits
import Derived.WideShapes
import Derived.Laws.IdiomStrings
import Derived.Test.YtfkmajjgkdjncaaGreatDoorPJoin
import Derived.Laws.StructEq
import Derived.Test.YtfkmajjgkdjncaaGreatDoorClsG
import Derived.ChangeSlices
import Derived.ProofKit
import Derived.OpenShut
import Derived.SizedLaws
import Derived.Deep.Cut
import Derived.Deep.RegionHeld3
import Derived.RegionTactic
import Derived.Test.YtfkmajjgkdjncaaGreatDoorGSame
import Derived.Test.YtfkmajjgkdjncaaGreatDoorPmScan
set_option linter.unusedVariables false
set_option linter.unusedSimpArgs false
namespace Go.Proofs.YtfkmajjgkdjncaaGreatDoor
open Go.RowKit Go.Joins Go.Lib
def hexd (n : Nat) : UInt8 := if n < 10 then UInt8.ofNat (48 + n) else UInt8.ofNat (87 + n)
def hexN (n : Nat) : List UInt8 := if h : n < 16 then [hexd n] else hexN (n / 16) ++ [hexd (n % 16)]
end Go.Proofs.YtfkmajjgkdjncaaGreatDoor

namespace Go.Proofs.YtfkmajjgkdjncaaGreatDoor
open Go.RowKit
def alnum (r : Int) : Bool := (decide (97 ≤ r) && decide (r ≤ 122)) || (decide (65 ≤ r) && decide (r ≤ 90)) || (decide (48 ≤ r) && decide (r ≤ 57))
def hexU (n : Nat) : ByteArray := ⟨(Lib.toUpperA (hexN n)).toArray⟩
def letB (r : Int) : ByteArray := if alnum r = true then ⟨#[UInt8.ofNat r.toNat]⟩ else (⟨#[92, 117, 123]⟩ ++ hexU r.toNat) ++ ⟨#[125]⟩
end Go.Proofs.YtfkmajjgkdjncaaGreatDoor

namespace Go.Proofs.YtfkmajjgkdjncaaGreatDoor
open Go.RowKit Ru
def catB (l : List ByteArray) : ByteArray := ⟨((l.map (·.data.toList)).flatten).toArray⟩
end Go.Proofs.YtfkmajjgkdjncaaGreatDoor

namespace Go.Proofs.YtfkmajjgkdjncaaGreatDoor
open Go.RowKit Ru
def rngB (x : Int × Int) : ByteArray := if x.1 = x.2 then letB x.1 else (letB x.1 ++ ⟨#[45]⟩) ++ letB x.2
def setB (l : List (Int × Int)) : ByteArray := if l.length = 1 ∧ (l.getD 0 (0, 0)).1 = (l.getD 0 (0, 0)).2 then letB (l.getD 0 (0, 0)).1 else (⟨#[91]⟩ ++ catB (l.map rngB)) ++ ⟨#[93]⟩
end Go.Proofs.YtfkmajjgkdjncaaGreatDoor

namespace Go.Proofs.YtfkmajjgkdjncaaGreatDoor
open Go.RowKit De Wd
namespace De
def asc : Nat → List Int → List (Nat × It)
 | _, [] => []
 | a, c :: t => (a, ⟨c, 1, false, false, false⟩) :: asc (a + 1) t
theorem all_asc : ∀ (l : List Int) (a : Nat), (∀ x ∈ l, x < 128) → all a l = asc a l := by
 intro l
 induction l with
 | nil => intro a _; rw [all_nil]; rfl
 | cons c t ih =>
  intro a h
  have h1 : one (c :: t) = ⟨c, 1, false, false, false⟩ := one1 (h c (by simp))
  rw [all_cons a _ (by simp), h1]
  show (a, _) :: all (a + 1) t = _
  rw [ih _ fun x hx => h x (by simp [hx])]
  rfl
end De
namespace Wd
theorem asc_good : ∀ (l : List Int) (a : Nat), ∀ p ∈ asc a l, p.2.bad = false ∧ p.2.r ∈ l := by
 intro l
 induction l with
 | nil => intro a p hp; simp [asc] at hp
 | cons c t ih =>
  intro a p hp
  simp only [asc, List.mem_cons] at hp
  rcases hp with rfl | hp
  · simp
  · have := ih _ p hp
    exact ⟨this.1, by simp [this.2]⟩
theorem fb_asc {l : List Int} (h : ∀ x ∈ l, x < 128) : fb l = l.length := by
 unfold fb
 rw [all_asc l 0 h]
 have : (asc 0 l).find? (·.2.bad) = none := by
  rw [List.find?_eq_none]; intro p hp; simp [(asc_good l 0 p hp).1]
 rw [this]
def scF : Nat → Nat → List Int → List (Nat × Wt) × Option Nat
 | 0, _, _ => ([], none)
 | _ + 1, _, [] => ([], none)
 | n + 1, a, c :: t => match wd (c :: t) with
  | none => ([], some a)
  | some x => (if x.k = 0 then (scF n (a + x.z) ((c :: t).drop x.z)).1 else (a, x) :: (scF n (a + x.z) ((c :: t).drop x.z)).1, (scF n (a + x.z) ((c :: t).drop x.z)).2)
theorem scF_eq : ∀ (n a : Nat) (l : List Int), l.length ≤ n → scF n a l = sc a l := by
 intro n
 induction n with
 | zero => intro a l h; have : l = [] := List.eq_nil_of_length_eq_zero (by omega); subst this; rw [sc_nil]; rfl
 | succ n ih =>
  intro a l h
  cases l with
  | nil => rw [sc_nil]; rfl
  | cons c t =>
   simp only [scF]
   cases hw : wd (c :: t) with
   | none => rw [sc_none (by simp) hw]
   | some x =>
    have h1 := (wd_ok hw).1
    rw [sc_cons hw]
    simp only
    rw [ih _ _ (by rw [List.length_drop]; omega)]
theorem rs_asc {l : List Int} (h : ∀ x ∈ l, x < 128) (hl : l.length ≤ 4000) : rs l = match (scF l.length 0 l).2 with | some a => .bad 2 (min a l.length) | none => .ok (scF l.length 0 l).1 := by
 unfold rs
 rw [if_neg (by omega), fb_asc h, scF_eq _ _ _ (Nat.le_refl _)]
 cases (sc 0 l).2 with
 | some a => rfl
 | none => simp
theorem rs_asc_ok {l : List Int} {W : List (Nat × Wt)} (h : ∀ x ∈ l, x < 128) (hl : l.length ≤ 4000) (hW : scF l.length 0 l = (W, none)) : rs l = .ok W := by
 rw [rs_asc h hl, hW]
end Wd
end Go.Proofs.YtfkmajjgkdjncaaGreatDoor

namespace Go.Proofs.YtfkmajjgkdjncaaGreatDoor
open Go.RowKit De Wd
namespace Wd
theorem asc_get : ∀ (l : List Int) (a k : Nat), (asc a l)[k]? = (l[k]?).map fun c => (a + k, ⟨c, 1, false, false, false⟩) := by
 intro l
 induction l with
 | nil => intro a k; simp [asc]
 | cons c t ih =>
  intro a k
  cases k with
  | zero => simp [asc]
  | succ k =>
   simp only [asc, List.getElem?_cons_succ, ih]
   rw [show a + 1 + k = a + (k + 1) by omega]
theorem asc_len : ∀ (l : List Int) (a : Nat), (asc a l).length = l.length
 | [], a => rfl
 | c :: t, a => by simp [asc, asc_len t]
theorem pk_asc (l : List Int) (a k : Nat) : pk (asc a l) k = (l[k]?).getD (-1) := by
 unfold pk
 rw [asc_get]
 cases l[k]? <;> rfl
def At (L : Its) (k : Nat) (t : List Int) : Prop := ∀ i, i < t.length → pk L (k + i) = t.getD i 0
theorem At.head {L : Its} {k : Nat} {c : Int} {t : List Int} (h : At L k (c :: t)) : pk L k = c := by have := h 0 (by simp); simpa using this
theorem At.tail {L : Its} {k : Nat} {c : Int} {t : List Int} (h : At L k (c :: t)) : At L (k + 1) t := fun i hi => by
 have := h (i + 1) (by simpa using hi)
 rw [show k + 1 + i = k + (i + 1) by omega, this]; simp
theorem At.whole (l : List Int) (a : Nat) : At (asc a l) 0 l := fun i hi => by
 rw [pk_asc, Nat.zero_add]; simp [List.getD, hi]
def hv (k : Nat) : Int := if k < 10 then 48 + (k : Int) else 55 + (k : Int)
def hexI (n : Nat) : List Int := if h : n < 16 then [hv n] else hexI (n / 16) ++ [hv (n % 16)]
theorem dg_hv {k : Nat} (h : k < 16) : dg (hv k) = (k : Int) := by
 unfold dg hv
 split <;> split <;> (try split) <;> omega
theorem hv_ok {k : Nat} (h : k < 16) : 48 ≤ hv k ∧ hv k ≤ 70 := by unfold hv; split <;> omega
theorem sb_app (a b : ByteArray) : sb (a ++ b) = sb a ++ sb b := by simp [sb, ByteArray.data_append]
def lb (r : Int) : List Int := if alnum r = true then [r] else [92, 117, 123] ++ (hexI r.toNat ++ [125])
def rI (x : Int × Int) : List Int := if x.1 = x.2 then lb x.1 else lb x.1 ++ (45 :: lb x.2)
def Sk (x : Int × Int) : Prop := ((0 ≤ x.1 ∧ x.1 ≤ 1114111) ∧ ¬ (55296 ≤ x.1 ∧ x.1 < 57344)) ∧ ((0 ≤ x.2 ∧ x.2 ≤ 1114111) ∧ ¬ (55296 ≤ x.2 ∧ x.2 < 57344)) ∧ x.1 ≤ x.2
def Ends (L : Its) (k : Nat) : Prop := pk L k ≠ 45
def rsI (l : List (Int × Int)) : List Int := (l.map rI).flatten
end Wd
end Go.Proofs.YtfkmajjgkdjncaaGreatDoor

namespace Go.Proofs.YtfkmajjgkdjncaaGreatDoor
open Go.RowKit Go.ChangeShapes Go.WideShapes Go.ChangeAt
end Go.Proofs.YtfkmajjgkdjncaaGreatDoor

namespace Go.Proofs.YtfkmajjgkdjncaaGreatDoor
open Go.RowKit Go.ChangeShapes Go.WideShapes Go.ChangeAt Go.Deep Go.Joins
end Go.Proofs.YtfkmajjgkdjncaaGreatDoor

namespace Go.Proofs.YtfkmajjgkdjncaaGreatDoor.Ru
end Go.Proofs.YtfkmajjgkdjncaaGreatDoor.Ru

namespace Go.Proofs.YtfkmajjgkdjncaaGreatDoor
open Go.RowKit Ru
end Go.Proofs.YtfkmajjgkdjncaaGreatDoor
namespace Go.Proofs.YtfkmajjgkdjncaaGreatDoor
open Go.RowKit Ru
namespace Ru
end Ru
end Go.Proofs.YtfkmajjgkdjncaaGreatDoor
namespace Go.Proofs.YtfkmajjgkdjncaaGreatDoor
open Go.RowKit Ru
namespace Ru
end Ru
end Go.Proofs.YtfkmajjgkdjncaaGreatDoor
namespace Go.Proofs.YtfkmajjgkdjncaaGreatDoor
open Go.RowKit Ru
namespace Ru
end Ru
end Go.Proofs.YtfkmajjgkdjncaaGreatDoor
namespace Go.Proofs.YtfkmajjgkdjncaaGreatDoor
open Go.RowKit Ru
namespace Ru
end Ru
end Go.Proofs.YtfkmajjgkdjncaaGreatDoor

namespace Go.Proofs.YtfkmajjgkdjncaaGreatDoor
open Go.RowKit Ru
namespace PT
mutual
def remp : PT → Bool
 | .mk k _ _ l => if k = 1 ∨ k = 4 ∨ k = 7 then true else if k = 5 then (decide (l.length = 2) && allR l) else if k = 6 then (decide (l.length = 2) && anyR l) else false
def anyR : List PT → Bool
 | [] => false
 | e :: l => remp e || anyR l
def allR : List PT → Bool
 | [] => true
 | e :: l => remp e && allR l
end
end PT
namespace PT
mutual
def dep : PT → Nat
 | .mk _ _ _ l => deps l + 1
def deps : List PT → Nat
 | [] => 0
 | e :: l => max (dep e) (deps l)
end
end PT
end Go.Proofs.YtfkmajjgkdjncaaGreatDoor

namespace Go.Proofs.YtfkmajjgkdjncaaGreatDoor
open Go.RowKit Go.ChangeShapes Go.WideShapes Go.ChangeAt Go.Deep Go.Joins
section
variable {H : Type} {enc : TypeId × Value → H} {W : World}
end
end Go.Proofs.YtfkmajjgkdjncaaGreatDoor

namespace Go.Proofs.YtfkmajjgkdjncaaGreatDoor
open Go.RowKit Ru
namespace RE
end RE
end Go.Proofs.YtfkmajjgkdjncaaGreatDoor

namespace Go.Proofs.YtfkmajjgkdjncaaGreatDoor
open Go.RowKit Ru
namespace RE
mutual
def dep : RE → Nat
 | .mk _ _ l => deps l + 1
def deps : List RE → Nat
 | [] => 0
 | e :: l => max (dep e) (deps l)
end
mutual
def prt : RE → Bool
 | .mk k s l => shp (.mk k s l) && prtL l
def prtL : List RE → Bool
 | [] => true
 | e :: l => prt e && prtL l
end
end RE
end Go.Proofs.YtfkmajjgkdjncaaGreatDoor

namespace Go.Proofs.YtfkmajjgkdjncaaGreatDoor
open Go.RowKit Ru
def hold (t : ByteArray) (m : Bool) : ByteArray := if m = true then (⟨#[40]⟩ ++ t) ++ ⟨#[41]⟩ else t
def nodeB (k : Int) (s : List (Int × Int)) (ks : List Int) (ts : List ByteArray) : ByteArray :=
 if k = 1 then ⟨#[40, 41]⟩
 else if k = 2 then setB s
 else if k = 3 then hold (ts.getD 0 ⟨#[]⟩) ([4].contains (ks.getD 0 0)) ++ hold (ts.getD 1 ⟨#[]⟩) ([4, 3].contains (ks.getD 1 0))
 else if k = 4 then (hold (ts.getD 0 ⟨#[]⟩) false ++ ⟨#[124]⟩) ++ hold (ts.getD 1 ⟨#[]⟩) ([4].contains (ks.getD 1 0))
 else if k = 5 then hold (ts.getD 0 ⟨#[]⟩) ([3, 4].contains (ks.getD 0 0)) ++ ⟨#[42]⟩
 else ⟨#[91, 93]⟩
namespace RE
mutual
def text : RE → ByteArray
 | .mk k s l => nodeB k s (l.map kind) (texts l)
def texts : List RE → List ByteArray
 | [] => []
 | e :: l => text e :: texts l
end
end RE
end Go.Proofs.YtfkmajjgkdjncaaGreatDoor

namespace Go.Proofs.YtfkmajjgkdjncaaGreatDoor
open Go.RowKit Ru
end Go.Proofs.YtfkmajjgkdjncaaGreatDoor

namespace Go.Proofs.YtfkmajjgkdjncaaGreatDoor
open Go.RowKit Ru
end Go.Proofs.YtfkmajjgkdjncaaGreatDoor

namespace Go.Proofs.YtfkmajjgkdjncaaGreatDoor
open Go.RowKit Ru
end Go.Proofs.YtfkmajjgkdjncaaGreatDoor

namespace Go.Proofs.YtfkmajjgkdjncaaGreatDoor
open Go.RowKit Ru
namespace PT
mutual
def vsp : PT → Nat → Nat → Bool × Nat
 | .mk k ns es l, n, deep => if 60 < n + 1 ∨ 12 < deep ∨ shp (.mk k ns es l) = false then (false, n + 1) else vspL l (n + 1) (deep + 1)
def vspL : List PT → Nat → Nat → Bool × Nat
 | [], n, _ => (true, n)
 | e :: l, n, deep => if (vsp e n deep).1 = true then vspL l (vsp e n deep).2 deep else (false, (vsp e n deep).2)
end
end PT
end Go.Proofs.YtfkmajjgkdjncaaGreatDoor

namespace Go.Proofs.YtfkmajjgkdjncaaGreatDoor
open Go.RowKit Ru
def joinB (l : List ByteArray) : ByteArray := ⟨(Lib.join (l.map (·.data.toList)) [32]).toArray⟩
def brB (l : List ByteArray) : ByteArray := (⟨#[123]⟩ ++ joinB l) ++ ⟨#[125]⟩
def nodeP (k : Int) (ns es : List ByteArray) (ks : List Int) (ts : List ByteArray) : ByteArray :=
 if k = 2 then brB ns
 else if k = 4 then ⟨#[95]⟩
 else if k = 3 then ((((((⟨#[60]⟩ ++ joinB ns) ++ ⟨#[58]⟩) ++ hold (ts.getD 0 ⟨#[]⟩) (([] : List Int).contains (ks.getD 0 0))) ++ ⟨#[58]⟩) ++ joinB es) ++ ⟨#[62]⟩)
 else if k = 5 then (hold (ts.getD 0 ⟨#[]⟩) ([6].contains (ks.getD 0 0)) ++ ⟨#[32]⟩) ++ hold (ts.getD 1 ⟨#[]⟩) ([6, 5].contains (ks.getD 1 0))
 else if k = 6 then (hold (ts.getD 0 ⟨#[]⟩) (([] : List Int).contains (ks.getD 0 0)) ++ ⟨#[124]⟩) ++ hold (ts.getD 1 ⟨#[]⟩) ([6].contains (ks.getD 1 0))
 else if k = 7 then hold (ts.getD 0 ⟨#[]⟩) ([5, 6].contains (ks.getD 0 0)) ++ ⟨#[42]⟩
 else ⟨#[40, 41]⟩
namespace PT
mutual
def text : PT → ByteArray
 | .mk k ns es l => nodeP k ns es (l.map kind) (texts l)
def texts : List PT → List ByteArray
 | [] => []
 | e :: l => text e :: texts l
end
end PT
end Go.Proofs.YtfkmajjgkdjncaaGreatDoor

namespace Go.Proofs.YtfkmajjgkdjncaaGreatDoor
open Go.RowKit Ru
end Go.Proofs.YtfkmajjgkdjncaaGreatDoor

namespace Go.Proofs.YtfkmajjgkdjncaaGreatDoor
open Go.RowKit Ru
end Go.Proofs.YtfkmajjgkdjncaaGreatDoor

namespace Go.Proofs.YtfkmajjgkdjncaaGreatDoor
open Go.RowKit Ru
end Go.Proofs.YtfkmajjgkdjncaaGreatDoor

namespace Go.Proofs.YtfkmajjgkdjncaaGreatDoor
open Go.RowKit Ru
def decB (c : Int) : ByteArray := ⟨(Lib.decDigits c.toNat).toArray⟩
end Go.Proofs.YtfkmajjgkdjncaaGreatDoor

namespace Go.Proofs.YtfkmajjgkdjncaaGreatDoor
open Go.RowKit Ru
end Go.Proofs.YtfkmajjgkdjncaaGreatDoor

namespace Go.Proofs.YtfkmajjgkdjncaaGreatDoor
open Go.RowKit Ru
def kindB (k : Int) : ByteArray := if k = 0 then ⟨#[105, 110, 116]⟩ else if k = 1 then ⟨#[99, 97, 108, 108]⟩ else ⟨#[114, 101, 116]⟩
end Go.Proofs.YtfkmajjgkdjncaaGreatDoor

namespace Go.Proofs.YtfkmajjgkdjncaaGreatDoor
open Go.RowKit Ru
namespace RE
mutual
def nn : RE → Bool
 | .mk k s l => decide (k = 0) || nnL l
def nnL : List RE → Bool
 | [] => false
 | e :: l => nn e || nnL l
end
end RE
end Go.Proofs.YtfkmajjgkdjncaaGreatDoor

namespace Go.Proofs.YtfkmajjgkdjncaaGreatDoor
open Go.RowKit De Wd Ru
namespace Pm
section
variable (L : Its) (n : Nat) (cl : Nat → Nat → Cr)
mutual
inductive Alts : Nat → Nat → RE → Nat → Prop
 | mk {d k k1 k2 : Nat} {a e : RE} (h : Alt d k a k1) (r : AltsL d a k1 e k2) : Alts d k e k2
inductive AltsL : Nat → RE → Nat → RE → Nat → Prop
 | stop {d k : Nat} {a : RE} (h : pk L k ≠ 124) : AltsL d a k a k
 | go {d k k1 k2 : Nat} {a b e : RE} (h : pk L k = 124) (p : Alt d (k + 1) b k1) (r : AltsL d (.mk 4 [] [a, b]) k1 e k2) : AltsL d a k e k2
inductive Alt : Nat → Nat → RE → Nat → Prop
 | none {d k : Nat} (h : atm (pk L k) = false) : Alt d k (.mk 1 [] []) k
 | some {d k k1 k2 : Nat} {a e : RE} (h : atm (pk L k) = true) (p : Post d k a k1) (r : AltL d a k1 e k2) : Alt d k e k2
inductive AltL : Nat → RE → Nat → RE → Nat → Prop
 | stop {d k : Nat} {a : RE} (h : atm (pk L k) = false) : AltL d a k a k
 | go {d k k1 k2 : Nat} {a b e : RE} (h : atm (pk L k) = true) (p : Post d k b k1) (r : AltL d (.mk 3 [] [a, b]) k1 e k2) : AltL d a k e k2
inductive Post : Nat → Nat → RE → Nat → Prop
 | mk {d k k1 k2 : Nat} {a e : RE} (h : Atom d k a k1) (r : PostL a k1 e k2) : Post d k e k2
inductive PostL : RE → Nat → RE → Nat → Prop
 | stop {k : Nat} {a : RE} (h : pk L k ≠ 42) : PostL a k a k
 | go {k k2 : Nat} {a e : RE} (h : pk L k = 42) (r : PostL (.mk 5 [] [a]) (k + 1) e k2) : PostL a k e k2
inductive Atom : Nat → Nat → RE → Nat → Prop
 | par {d k k1 : Nat} {e : RE} (h : pk L k = 40) (hd : d < 40) (p : Alts (d + 1) (k + 1) e k1) (h2 : pk L k1 = 41) : Atom d k e (k1 + 1)
 | cls {d k j : Nat} {S : List (Int × Int)} (h : pk L k = 91) (s : ScanC L (k + 1) j) (h2 : pk L j = 93) (c : cl (plc L n k + 1) (plc L n j) = .ok S) : Atom d k (.mk 2 S []) (j + 1)
 | esc {d k j : Nat} {S : List (Int × Int)} (h : pk L k = 92) (h1 : pk L (k + 1) = 117) (s : ScanB L (k + 2) j) (hj : j < L.length) (c : cl (plc L n k) (plc L n (j + 1)) = .ok S) : Atom d k (.mk 2 S []) (j + 1)
 | one {d k : Nat} {r : Int} (h : pk L k = r) (ha : alnum r = true) : Atom d k (.mk 2 [(r, r)] []) (k + 1)
end
end
theorem pk_in {L : Its} {k : Nat} {c : Int} (h : pk L k = c) (hc : 0 ≤ c) : k < L.length := by
 rcases Nat.lt_or_ge k L.length with h1 | h1
 · exact h1
 · rw [pk_end (by omega)] at h; omega
theorem scan_num {L : Its} : ∀ (t : List Int) (k : Nat) (u : List Int), (∀ c ∈ t, 0 ≤ c ∧ c ≠ 125) → At L k (t ++ 125 :: u) → ScanB L k (k + t.length) := by
 intro t
 induction t with
 | nil => intro k u _ hA; exact .stop (fun _ => hA.head)
 | cons c t ih =>
  intro k u hc hA
  have h1 := hc c (by simp)
  have e := hA.head
  have := ih (k + 1) u (fun x hx => hc x (by simp [hx])) hA.tail
  rw [List.length_cons, show k + (t.length + 1) = k + 1 + t.length by omega]
  exact .go (pk_in e h1.1) (by rw [e]; exact h1.2) this
structure Plain (L : Its) (n : Nat) (cl : Nat → Nat → Cr) : Prop where
 plc : ∀ k, k ≤ L.length → plc L n k = k
 cl : ∀ (k : Nat) (t : List Int), At L k t → k + t.length ≤ L.length → cl k (k + t.length) = clsF (all 0 t) t.length
structure SetOk (l : List (Int × Int)) : Prop where
 sk : ∀ x ∈ l, Sk x
 ne : l ≠ []
 nf : Ru.nrm l = l
section
variable {L : Its} {n : Nat} {cl : Nat → Nat → Cr}
def PreP (L : Its) (n : Nat) (cl : Nat → Nat → Cr) (e : RE) (d k m : Nat) : Prop := ∃ a k0, Atom L n cl d k a k0 ∧ ∀ e' k', PostL L n cl e (k + m) e' k' → PostL L n cl a k0 e' k'
def PreQ (L : Its) (n : Nat) (cl : Nat → Nat → Cr) (e : RE) (d k m : Nat) : Prop := ∃ a k0, Post L n cl d k a k0 ∧ ∀ e' k', AltL L n cl d e (k + m) e' k' → AltL L n cl d a k0 e' k'
def PreA (L : Its) (n : Nat) (cl : Nat → Nat → Cr) (e : RE) (d k m : Nat) : Prop := ∃ a k0, Alt L n cl d k a k0 ∧ ∀ e' k', AltsL L n cl d e (k + m) e' k' → AltsL L n cl d a k0 e' k'
def PT' (e : RE) : List Int := sb (hold e.text ([3, 4].contains e.kind))
def QT (e : RE) : List Int := sb (hold e.text ([4].contains e.kind))
structure RT (L : Its) (n : Nat) (cl : Nat → Nat → Cr) (e : RE) : Prop where
 P : ∀ d k, 2 * e.dep + d ≤ 40 → k ≤ L.length → At L k (PT' e) → PreP L n cl e d k (PT' e).length
 Q : ∀ d k, 2 * e.dep + d ≤ 40 → k ≤ L.length → At L k (QT e) → pk L (k + (QT e).length) ≠ 42 → PreQ L n cl e d k (QT e).length
 A : ∀ d k, 2 * e.dep + d ≤ 41 → k ≤ L.length → At L k (sb e.text) → pk L (k + (sb e.text).length) ≠ 42 → atm (pk L (k + (sb e.text).length)) = false → PreA L n cl e d k (sb e.text).length
def OwnP (L : Its) (n : Nat) (cl : Nat → Nat → Cr) (e : RE) : Prop := ∀ d k, 2 * e.dep + d ≤ 41 → k ≤ L.length → At L k (sb e.text) → PreP L n cl e d k (sb e.text).length
def OwnQ (L : Its) (n : Nat) (cl : Nat → Nat → Cr) (e : RE) : Prop := ∀ d k, 2 * e.dep + d ≤ 41 → k ≤ L.length → At L k (sb e.text) → pk L (k + (sb e.text).length) ≠ 42 → PreQ L n cl e d k (sb e.text).length
def OwnA (L : Its) (n : Nat) (cl : Nat → Nat → Cr) (e : RE) : Prop := ∀ d k, 2 * e.dep + d ≤ 41 → k ≤ L.length → At L k (sb e.text) → pk L (k + (sb e.text).length) ≠ 42 → atm (pk L (k + (sb e.text).length)) = false → PreA L n cl e d k (sb e.text).length
end
end Pm
end Go.Proofs.YtfkmajjgkdjncaaGreatDoor
