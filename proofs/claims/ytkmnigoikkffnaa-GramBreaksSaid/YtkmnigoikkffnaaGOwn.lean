/- Owned rows of tokens, steps and rules; facts of values that hang on some blocks alone. -/
import Derived.Test.YtkmnigoikkffnaaGTold
set_option linter.unusedVariables false
set_option linter.unusedSimpArgs false
namespace Go.Proofs.Ytkmnigoikkffnaa
open Go.RowKit Ru

abbrev TkO (X : Nat → Prop) (w : World) (B : Nat) (v : Value) (ps : List (TK × Value × Value)) : Prop := Own X w B 55 6 v six (fun w' p => ReIs w' p.1.re p.2.1 p.2.2) ps
abbrev StO (X : Nat → Prop) (w : World) (B : Nat) (v : Value) (ps : List (ST × Value × Value × Value × Value)) : Prop := Own X w B 45 5 v five (fun w' p => Row w' p.2.1 p.1.calls.length (strs p.1.calls) ∧ PtIs w' p.1.p p.2.2.1 p.2.2.2.1 p.2.2.2.2) ps
abbrev RuO (X : Nat → Prop) (w : World) (B : Nat) (v : Value) (ps : List (RU × Value)) : Prop := Own X w B 38 3 v three (fun w' p => StsAre w' p.2 p.1.steps) ps
theorem mem_at {α : Type} {l : List α} {i : Nat} {p : α} (h : l[i]? = some p) : p ∈ l := List.mem_of_getElem? h
theorem TkO.are {X : Nat → Prop} {w : World} {B : Nat} {v : Value} {ps : List (TK × Value × Value)} (h : TkO X w B v ps) : TksAre w v (ps.map (·.1)) :=
  ⟨ps, rfl, by simpa using Row.owned h.row, fun i p hp => (h.keep p (mem_at hp)).here⟩
theorem StO.are {X : Nat → Prop} {w : World} {B : Nat} {v : Value} {ps : List (ST × Value × Value × Value × Value)} (h : StO X w B v ps) : StsAre w v (ps.map (·.1)) :=
  ⟨ps, rfl, by simpa using Row.owned h.row, fun i p hp => (h.keep p (mem_at hp)).here⟩
theorem RuO.are {X : Nat → Prop} {w : World} {B : Nat} {v : Value} {ps : List (RU × Value)} (h : RuO X w B v ps) : RusAre w v (ps.map (·.1)) :=
  ⟨ps, rfl, by simpa using Row.owned h.row, fun i p hp => (h.keep p (mem_at hp)).here⟩
/-- Make's four tokens, owned -/
def ps0 (ra rb rc rd : Nat) : List (TK × Value × Value) := [(tkA, .slice (some ⟨ra, 0, none⟩) 1 1, .slice none 0 0), (⟨⟨#[98]⟩, 0, 2, .mk 2 [(10, 10), (98, 98)] []⟩, .slice (some ⟨rb, 0, none⟩) 2 2, .slice none 0 0), (⟨⟨#[111]⟩, 1, 3, .mk 2 [(99, 99)] []⟩, .slice (some ⟨rc, 0, none⟩) 1 1, .slice none 0 0), (⟨⟨#[99]⟩, 2, 4, .mk 2 [(100, 100)] []⟩, .slice (some ⟨rd, 0, none⟩) 1 1, .slice none 0 0)]
theorem ps0_tok (ra rb rc rd : Nat) : (ps0 ra rb rc rd).map (·.1) = T0 := rfl
theorem Mk0.tko {X : Nat → Prop} {w w' : World} {pt ra rb rc rd : Nat} (h : Mk0 w w' pt ra rb rc rd) (hX : ∀ k, k < w'.heap.size → X k) : TkO X w' w.heap.size (.slice (some ⟨pt, 0, none⟩) 4 4) (ps0 ra rb rc rd) := by
  have hne : ∀ {k : Nat} {o : Obj}, w'.heap[k]? = some o → o ≠ .cells (t0cells ra rb rc rd) 55 (0, 0) → X k ∧ Value.ownBlock (.slice (some ⟨pt, 0, none⟩) 4 4) ≠ some k := by
    intro k o hk ho
    refine ⟨hX k (hp_lt hk), fun e => ?_⟩
    simp [Value.ownBlock] at e
    subst e
    rw [h.ht] at hk
    exact ho (by cases hk; rfl)
  refine ⟨h.owns, ?_⟩
  intro p hp
  simp only [ps0, List.mem_cons, List.not_mem_nil, or_false] at hp
  rcases hp with rfl | rfl | rfl | rfl
  · exact (KP.block h.ha (hne h.ha (by simp))).mono fun w2 h2 => re_set [(97, 97)] 1 rfl (by decide) h2
  · exact (KP.block h.hb (hne h.hb (by simp))).mono fun w2 h2 => re_set [(10, 10), (98, 98)] 2 rfl (by decide) h2
  · exact (KP.block h.hc (hne h.hc (by simp))).mono fun w2 h2 => re_set [(99, 99)] 1 rfl (by decide) h2
  · exact (KP.block h.hd (hne h.hd (by simp))).mono fun w2 h2 => re_set [(100, 100)] 1 rfl (by decide) h2
end Go.Proofs.Ytkmnigoikkffnaa
