/- Merged. -/
import Derived.Test.YtfkmajjgkdjncaaGreatDoorGMk0
import Derived.Deep.RegionLaw
import Derived.Test.YtfkmajjgkdjncaaGreatDoorOwn
import Derived.Deep.RegionHeld3
set_option linter.unusedVariables false
set_option linter.unusedSimpArgs false
namespace Go.Proofs.YtfkmajjgkdjncaaGreatDoor
open Go.RowKit Ru
theorem row_block {w : World} {g n size : Nat} {cs : Array Value} {e : TypeId} (h : w.heap[g]? = some (.cells cs e (0, 0))) (hs : cs.size = n * size) (hn : n ≤ maxLen) : w.ownsRow g e size (.slice (some ⟨g, 0, none⟩) n n) n cs.toList :=
 ⟨by simpa using hs, .inr ⟨g, n, cs, rfl, Nat.le_refl _, h, Nat.le_refl _, hn, hs, List.take_of_length_le (by simp [hs])⟩⟩
theorem infoToken : ∃ i, Tryz.prog.info? 54 = some i ∧ i.zero = some (.agg #[.string ⟨#[]⟩, .int .i64 0, .int .i64 0, .int .i64 0, .slice none 0 0, .slice none 0 0]) ∧ i.size = 6 ∧ i.bytes = 88 := info_parts (by kernel_rfl)
theorem row_drew {w : World} {v : Value} {n : Nat} {cs : List Value} (h : Row w v n cs) : Row w.drew v n cs := h.below (Below.refl _ _).drew
end Go.Proofs.YtfkmajjgkdjncaaGreatDoor

namespace Go.Proofs.YtfkmajjgkdjncaaGreatDoor
open Go.RowKit Ru
abbrev TkO (X : Nat → Prop) (w : World) (B : Nat) (v : Value) (ps : List (TK × Value × Value)) : Prop := Own X w B 54 6 v six (fun w' p => ReIs w' p.1.re p.2.1 p.2.2) ps
abbrev StO (X : Nat → Prop) (w : World) (B : Nat) (v : Value) (ps : List (ST × Value × Value × Value × Value)) : Prop := Own X w B 60 5 v five (fun w' p => Row w' p.2.1 p.1.calls.length (strs p.1.calls) ∧ PtIs w' p.1.p p.2.2.1 p.2.2.2.1 p.2.2.2.2) ps
abbrev RuO (X : Nat → Prop) (w : World) (B : Nat) (v : Value) (ps : List (RU × Value)) : Prop := Own X w B 63 3 v three (fun w' p => StsAre w' p.2 p.1.steps) ps
theorem mem_at {α : Type} {l : List α} {i : Nat} {p : α} (h : l[i]? = some p) : p ∈ l := List.mem_of_getElem? h
theorem TkO.are {X : Nat → Prop} {w : World} {B : Nat} {v : Value} {ps : List (TK × Value × Value)} (h : TkO X w B v ps) : TksAre w v (ps.map (·.1)) :=
 ⟨ps, rfl, by simpa using Row.owned h.row, fun i p hp => (h.keep p (mem_at hp)).here⟩
theorem StO.are {X : Nat → Prop} {w : World} {B : Nat} {v : Value} {ps : List (ST × Value × Value × Value × Value)} (h : StO X w B v ps) : StsAre w v (ps.map (·.1)) :=
 ⟨ps, rfl, by simpa using Row.owned h.row, fun i p hp => (h.keep p (mem_at hp)).here⟩
theorem RuO.are {X : Nat → Prop} {w : World} {B : Nat} {v : Value} {ps : List (RU × Value)} (h : RuO X w B v ps) : RusAre w v (ps.map (·.1)) :=
 ⟨ps, rfl, by simpa using Row.owned h.row, fun i p hp => (h.keep p (mem_at hp)).here⟩
end Go.Proofs.YtfkmajjgkdjncaaGreatDoor
