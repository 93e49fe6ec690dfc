/- Merged. -/
import Derived.Test.YtfkmajjgkdjncaaGreatDoorPmRe
set_option linter.unusedVariables false
set_option linter.unusedSimpArgs false
namespace Go.Proofs.YtfkmajjgkdjncaaGreatDoor
open De
namespace Wd
structure Pw where
 k : Int
 t : List Int
def Pw.txt (p : Pw) : List Int := if p.k = 4 then 47 :: (p.t ++ [47]) else p.t
def flat : List Pw → List Int
 | [] => []
 | p :: l => p.txt ++ flat l
def Ex (t : List Int) : Prop := ∀ u, ex false (t ++ 47 :: u) = some t.length
inductive PK : Pw → Prop
 | sp : PK ⟨0, [32]⟩
 | nm {c : Int} {u : List Int} (h : isLow c = true) (hu : ∀ x ∈ u, lowDig x = true) : PK ⟨1, c :: u⟩
 | dg {c : Int} {u : List Int} (h : isDig c = true) (hu : ∀ x ∈ u, isDig x = true) : PK ⟨2, c :: u⟩
 | sg {c : Int} (h : c ∈ signs) : PK ⟨3, [c]⟩
 | ex {t : List Int} (h : Ex t) : PK ⟨4, t⟩
 | ln : PK ⟨5, [10]⟩
def fr (p : Pw) (l : List Pw) : Prop := (p.k = 1 ∨ p.k = 2) → ∀ q l', l = q :: l' → q.k ≠ 1 ∧ q.k ≠ 2
inductive OkP : List Pw → Prop
 | nil : OkP []
 | cons {p : Pw} {l : List Pw} (h : PK p) (f : fr p l) (r : OkP l) : OkP (p :: l)
def Pw.wt (p : Pw) : Wt := ⟨p.k, if p.k = 4 then 1 else 0, if p.k = 0 ∨ p.k = 5 then 0 else p.t.length, p.txt.length⟩
def vw (S : List Int) (p : Nat × Wt) : Int × List Int := (p.2.k, (S.drop (p.1 + p.2.o)).take p.2.n)
def says (l : List Pw) : List (Int × List Int) := (l.filter (fun p => !(decide (p.k = 0)))).map fun p => (p.k, if p.k = 5 then [] else p.t)
end Wd
end Go.Proofs.YtfkmajjgkdjncaaGreatDoor

namespace Go.Proofs.YtfkmajjgkdjncaaGreatDoor
open Go.RowKit De Wd Ru
namespace Pm
def nsP : List ByteArray → List Pw
 | [] => []
 | [b] => [⟨1, sb b⟩]
 | b :: c :: l => ⟨1, sb b⟩ :: ⟨0, [32]⟩ :: nsP (c :: l)
def sgP (c : Int) : Pw := ⟨3, [c]⟩
structure Sgd (l : List Pw) : Prop where
 ok : OkP l
 ne : l ≠ []
 h : ∀ q, l.head? = some q → q.k = 3
 t : ∀ q, l.getLast? = some q → q.k = 3
def holdW (l : List Pw) (m : Bool) : List Pw := if m = true then [sgP 40] ++ l ++ [sgP 41] else l
def nodeW (k : Int) (ns es : List ByteArray) (ks : List Int) (ts : List (List Pw)) : List Pw :=
 if k = 2 then [sgP 123] ++ nsP ns ++ [sgP 125]
 else if k = 4 then [sgP 95]
 else if k = 3 then ([sgP 60] ++ nsP ns ++ ([sgP 58] ++ ts.getD 0 [] ++ [sgP 58])) ++ nsP es ++ [sgP 62]
 else if k = 5 then holdW (ts.getD 0 []) ([6].contains (ks.getD 0 0)) ++ ⟨0, [32]⟩ :: holdW (ts.getD 1 []) ([6, 5].contains (ks.getD 1 0))
 else if k = 6 then ts.getD 0 [] ++ [sgP 124] ++ holdW (ts.getD 1 []) ([6].contains (ks.getD 1 0))
 else if k = 7 then holdW (ts.getD 0 []) ([5, 6].contains (ks.getD 0 0)) ++ [sgP 42]
 else [sgP 40] ++ [sgP 41]
end Pm
namespace PT
mutual
def pcs : PT → List Wd.Pw
 | .mk k ns es l => Pm.nodeW k ns es (l.map kind) (pcsL l)
def pcsL : List PT → List (List Wd.Pw)
 | [] => []
 | e :: l => pcs e :: pcsL l
end
end PT
namespace Pm
inductive Nmd : PT → Prop
 | mk (k : Int) (ns es : List ByteArray) (l : List PT) (hs : (PT.mk k ns es l).shp = true) (hn : ∀ b ∈ ns, namB b = true) (he : ∀ b ∈ es, namB b = true) (h : ∀ p ∈ l, Nmd p) : Nmd (.mk k ns es l)
end Pm
end Go.Proofs.YtfkmajjgkdjncaaGreatDoor

namespace Go.Proofs.YtfkmajjgkdjncaaGreatDoor
open Go.RowKit De Wd Ru
namespace Pm
abbrev Ws := List (Int × List Int)
def sg (V : Ws) (k : Nat) (c : Int) : Prop := V[k]? = some (3, [c])
instance (V : Ws) (k : Nat) (c : Int) : Decidable (sg V k c) := inferInstanceAs (Decidable (_ = _))
def vk (V : Ws) (k : Nat) : Int := match V[k]? with | some p => p.1 | none => 0
def patm (V : Ws) (k : Nat) : Prop := sg V k 123 ∨ sg V k 95 ∨ sg V k 40 ∨ sg V k 60
instance (V : Ws) (k : Nat) : Decidable (patm V k) := inferInstanceAs (Decidable (_ ∨ _ ∨ _ ∨ _))
inductive Nms (V : Ws) : Nat → List ByteArray → Nat → Prop
 | last {k : Nat} {b : ByteArray} (h : V[k]? = some (1, sb b)) (hb : namB b = true) (h2 : vk V (k + 1) ≠ 1) : Nms V k [b] (k + 1)
 | more {k j : Nat} {b : ByteArray} {l : List ByteArray} (h : V[k]? = some (1, sb b)) (hb : namB b = true) (r : Nms V (k + 1) l j) : Nms V k (b :: l) j
section
variable (V : Ws)
mutual
inductive PAlts : Nat → Nat → PT → Nat → Prop
 | mk {d k k1 k2 : Nat} {a e : PT} (h : PAlt d k a k1) (r : PAltsL d a k1 e k2) : PAlts d k e k2
inductive PAltsL : Nat → PT → Nat → PT → Nat → Prop
 | stop {d k : Nat} {a : PT} (h : ¬ sg V k 124) : PAltsL d a k a k
 | go {d k k1 k2 : Nat} {a b e : PT} (h : sg V k 124) (p : PAlt d (k + 1) b k1) (r : PAltsL d (.mk 6 [] [] [a, b]) k1 e k2) : PAltsL d a k e k2
inductive PAlt : Nat → Nat → PT → Nat → Prop
 | mk {d k k1 k2 : Nat} {a e : PT} (p : PPost d k a k1) (r : PAltL d a k1 e k2) : PAlt d k e k2
inductive PAltL : Nat → PT → Nat → PT → Nat → Prop
 | stop {d k : Nat} {a : PT} (h : ¬ patm V k) : PAltL d a k a k
 | go {d k k1 k2 : Nat} {a b e : PT} (h : patm V k) (p : PPost d k b k1) (r : PAltL d (.mk 5 [] [] [a, b]) k1 e k2) : PAltL d a k e k2
inductive PPost : Nat → Nat → PT → Nat → Prop
 | mk {d k k1 k2 : Nat} {a e : PT} (h : PAtom d k a k1) (r : PPostL a k1 e k2) : PPost d k e k2
inductive PPostL : PT → Nat → PT → Nat → Prop
 | stop {k : Nat} {a : PT} (h : ¬ sg V k 42) : PPostL a k a k
 | go {k k2 : Nat} {a e : PT} (h : sg V k 42) (r : PPostL (.mk 7 [] [] [a]) (k + 1) e k2) : PPostL a k e k2
inductive PAtom : Nat → Nat → PT → Nat → Prop
 | tok {d k j : Nat} {ns : List ByteArray} (h : sg V k 123) (n : Nms V (k + 1) ns j) (h2 : sg V j 125) : PAtom d k (.mk 2 ns [] []) (j + 1)
 | well {d k : Nat} (h : sg V k 95) : PAtom d k (.mk 4 [] [] []) (k + 1)
 | inn {d k j k1 j2 : Nat} {ns es : List ByteArray} {p : PT} (h : sg V k 60) (hd : d < 40) (n : Nms V (k + 1) ns j) (h2 : sg V j 58) (q : PAlts (d + 1) (j + 1) p k1) (h3 : sg V k1 58) (n2 : Nms V (k1 + 1) es j2) (h4 : sg V j2 62) : PAtom d k (.mk 3 ns es [p]) (j2 + 1)
 | non {d k : Nat} (h : sg V k 40) (hd : d < 40) (h2 : sg V (k + 1) 41) : PAtom d k (.mk 1 [] [] []) (k + 1 + 1)
 | par {d k k1 : Nat} {p : PT} (h : sg V k 40) (hd : d < 40) (h2 : ¬ sg V (k + 1) 41) (q : PAlts (d + 1) (k + 1) p k1) (h3 : sg V k1 41) : PAtom d k p (k1 + 1)
end
end
section
variable {V : Ws}
end
end Pm
end Go.Proofs.YtfkmajjgkdjncaaGreatDoor
