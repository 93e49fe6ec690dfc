/- regex's nodes in memory, each with what it has read. -/
import Derived.Test.YtmgfpcblbbpahaaGreatNfSets
set_option linter.unusedVariables false
set_option linter.unusedSimpArgs false
namespace Go.Proofs.YtmgfpcblbbpahaaGreat
open Go.RowKit Ru

/-- the nodes of an expression: their blocks, may a match end there -/
inductive FT where
  | leaf (q : Nat) (f : Bool)
  | one (q : Nat) (f : Bool) (a : FT)
  | two (q : Nat) (f : Bool) (a b : FT)
namespace FT
def q : FT → Nat | leaf q _ => q | one q _ _ => q | two q _ _ _ => q
def f : FT → Bool | leaf _ f => f | one _ f _ => f | two _ f _ _ => f
def blks : FT → List Nat
  | leaf q _ => [q]
  | one q _ a => q :: a.blks
  | two q _ a b => q :: (a.blks ++ b.blks)
def clean : FT → Prop
  | leaf _ f => f = false
  | one _ f a => f = false ∧ a.clean
  | two _ f a b => f = false ∧ a.clean ∧ b.clean
theorem clean_f {t : FT} (h : t.clean) : t.f = false := by
  cases t
  · exact h
  · exact h.1
  · exact h.1
theorem q_mem (t : FT) : t.q ∈ t.blks := by cases t <;> simp [q, blks]
end FT
/-- block q is a node of e; qs: its parts' blocks -/
def NodeF (w0 w : World) (q : Nat) (e : RE) (f : Bool) (qs : List Nat) : Prop :=
  ∃ sv pv, w.heap[q]? = some (.cells #[.int .i64 e.kind, sv, pv, .bool e.emp, .bool f] 76 (0, 0)) ∧ w0.heap.size ≤ q ∧ Row w0 sv e.set.length (flatK .i32 e.set) ∧ w.ownsRow w0.heap.size 72 1 pv qs.length (ptrs qs)
def Nd (w0 w : World) : RE → FT → Prop
  | e, .leaf q f => e.parts = [] ∧ NodeF w0 w q e f []
  | e, .one q f a => ∃ ea, e.parts = [ea] ∧ NodeF w0 w q e f [a.q] ∧ Nd w0 w ea a
  | e, .two q f a b => ∃ ea eb, e.parts = [ea, eb] ∧ NodeF w0 w q e f [a.q, b.q] ∧ Nd w0 w ea a ∧ Nd w0 w eb b
/-- these blocks are nodes -/
def AllN (w : World) (L : List Nat) : Prop := ∀ k ∈ L, ∃ cs z, w.heap[k]? = some (.cells cs 76 z)
section
variable {w0 w w' : World} {q : Nat} {e : RE} {f : Bool} {qs L : List Nat} {t : FT}
theorem NodeF.frame (h : NodeF w0 w q e f qs) (k : Ag (fun k => k ∉ L) w w') (hL : AllN w L) (hq : q ∉ L) : NodeF w0 w' q e f qs := by
  obtain ⟨sv, pv, h1, h2, h3, h4⟩ := h
  refine ⟨sv, pv, (k.block q (hp_lt h1) hq).trans h1, h2, h3, owns_ag h4 k fun j hj hin => ?_⟩
  obtain ⟨cs, z, hc⟩ := hL j hin
  exact own_apart h4 hc (by decide) hj
theorem Nd.frame : ∀ {t : FT} {e : RE}, Nd w0 w e t → Ag (fun k => k ∉ L) w w' → AllN w L → (∀ k ∈ t.blks, k ∉ L) → Nd w0 w' e t := by
  intro t
  induction t with
  | leaf q f => intro e h k hL ht; exact ⟨h.1, h.2.frame k hL (ht q (by simp [FT.blks]))⟩
  | one q f a ih =>
    intro e h k hL ht
    obtain ⟨ea, h1, h2, h3⟩ := h
    exact ⟨ea, h1, h2.frame k hL (ht q (by simp [FT.blks])), ih h3 k hL fun j hj => ht j (by simp [FT.blks, hj])⟩
  | two q f a b iha ihb =>
    intro e h k hL ht
    obtain ⟨ea, eb, h1, h2, h3, h4⟩ := h
    exact ⟨ea, eb, h1, h2.frame k hL (ht q (by simp [FT.blks])), iha h3 k hL fun j hj => ht j (by simp [FT.blks, hj]), ihb h4 k hL fun j hj => ht j (by simp [FT.blks, hj])⟩
theorem Nd.moved (h : Nd w0 w e t) (hb : Below w.heap.size w w') : Nd w0 w' e t := h.frame (L := []) (.of hb) (fun k hk => by cases hk) (fun k _ hk => by cases hk)
theorem NodeF.typ (h : NodeF w0 w q e f qs) : ∃ cs z, w.heap[q]? = some (.cells cs 76 z) := by obtain ⟨sv, pv, h1, _⟩ := h; exact ⟨_, _, h1⟩
theorem Nd.all : ∀ {t : FT} {e : RE}, Nd w0 w e t → AllN w t.blks := by
  intro t
  induction t with
  | leaf q f => intro e h k hk; simp [FT.blks] at hk; subst hk; exact h.2.typ
  | one q f a ih =>
    intro e h k hk
    obtain ⟨ea, h1, h2, h3⟩ := h
    rcases List.mem_cons.1 hk with rfl | hk
    · exact h2.typ
    · exact ih h3 k hk
  | two q f a b iha ihb =>
    intro e h k hk
    obtain ⟨ea, eb, h1, h2, h3, h4⟩ := h
    rcases List.mem_cons.1 hk with rfl | hk
    · exact h2.typ
    · rcases List.mem_append.1 hk with hk | hk
      · exact iha h3 k hk
      · exact ihb h4 k hk
theorem Nd.low : ∀ {t : FT} {e : RE}, Nd w0 w e t → ∀ k ∈ t.blks, w0.heap.size ≤ k ∧ k < w.heap.size := by
  have hn : ∀ {q : Nat} {e : RE} {f : Bool} {qs : List Nat}, NodeF w0 w q e f qs → w0.heap.size ≤ q ∧ q < w.heap.size := by
    rintro q e f qs ⟨sv, pv, h1, h2, _⟩; exact ⟨h2, hp_lt h1⟩
  intro t
  induction t with
  | leaf q f => intro e h k hk; simp [FT.blks] at hk; subst hk; exact hn h.2
  | one q f a ih =>
    intro e h k hk
    obtain ⟨ea, h1, h2, h3⟩ := h
    rcases List.mem_cons.1 hk with rfl | hk
    · exact hn h2
    · exact ih h3 k hk
  | two q f a b iha ihb =>
    intro e h k hk
    obtain ⟨ea, eb, h1, h2, h3, h4⟩ := h
    rcases List.mem_cons.1 hk with rfl | hk
    · exact hn h2
    · rcases List.mem_append.1 hk with hk | hk
      · exact iha h3 k hk
      · exact ihb h4 k hk
theorem Nd.nodeF (h : Nd w0 w e t) : ∃ qs, NodeF w0 w t.q e t.f qs := by
  cases t with
  | leaf q f => exact ⟨_, h.2⟩
  | one q f a => obtain ⟨ea, h1, h2, h3⟩ := h; exact ⟨_, h2⟩
  | two q f a b => obtain ⟨ea, eb, h1, h2, h3, h4⟩ := h; exact ⟨_, h2⟩
theorem NodeF.cells (h : NodeF w0 w q e f qs) : w.cell? ⟨q, 3, none⟩ = some (.bool e.emp) ∧ w.cell? ⟨q, 4, none⟩ = some (.bool f) ∧ w.frozen? ⟨q, 4, none⟩ = false := by
  obtain ⟨sv, pv, h1, _⟩ := h
  simp [World.cell?, World.frozen?, h1]
/-- the final mark of a node is written -/
theorem NodeF.mark (h : NodeF w0 w q e f qs) (b : Bool) : NodeF w0 (w.setCell ⟨q, 4, none⟩ (.bool b)) q e b qs := by
  obtain ⟨sv, pv, h1, h2, h3, h4⟩ := h
  exact ⟨sv, pv, by simp [World.setCell, Array.getElem?_modify, h1], h2, h3, ownsRow_setCell_other h4 (own_apart h4 h1 (by decide)) _⟩
end
/-- what reading a rune makes of the nodes -/
def rd : RE → FT → Bool → Int → FT
  | e, .leaf q f, en, r => .leaf q (if e.kind = 2 then en && has e.set r else f)
  | e, .one q f a, en, r => .one q (rd (e.parts.getD 0 e) a (en || a.f) r).f (rd (e.parts.getD 0 e) a (en || a.f) r)
  | e, .two q f a b, en, r =>
    if e.kind = 4 then .two q ((rd (e.parts.getD 0 e) a en r).f || (rd (e.parts.getD 1 e) b en r).f) (rd (e.parts.getD 0 e) a en r) (rd (e.parts.getD 1 e) b en r)
    else .two q ((rd (e.parts.getD 1 e) b (a.f || (en && (e.parts.getD 0 e).emp)) r).f || ((rd (e.parts.getD 0 e) a en r).f && (e.parts.getD 1 e).emp)) (rd (e.parts.getD 0 e) a en r) (rd (e.parts.getD 1 e) b (a.f || (en && (e.parts.getD 0 e).emp)) r)
theorem rd_q (e : RE) (t : FT) (en : Bool) (r : Int) : (rd e t en r).q = t.q := by
  cases t with
  | leaf q f => rfl
  | one q f a => rfl
  | two q f a b => unfold rd; split <;> rfl
theorem rd_blks : ∀ (t : FT) (e : RE) (en : Bool) (r : Int), (rd e t en r).blks = t.blks := by
  intro t
  induction t with
  | leaf q f => intro e en r; rfl
  | one q f a ih => intro e en r; unfold rd; simp only [FT.blks]; rw [ih]
  | two q f a b iha ihb => intro e en r; unfold rd; split <;> (simp only [FT.blks]; rw [iha, ihb])
end Go.Proofs.YtmgfpcblbbpahaaGreat
