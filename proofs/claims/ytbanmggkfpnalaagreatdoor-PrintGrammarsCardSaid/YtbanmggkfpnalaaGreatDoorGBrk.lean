/- GramBreaks: what a made-up grammar's check tells, whole and broken. No Go in sight. -/
import Derived.Test.YtbanmggkfpnalaaGreatDoorMkPQ
set_option linter.unusedVariables false
set_option linter.unusedSimpArgs false
namespace Go.Proofs.YtbanmggkfpnalaaGreatDoor
open Go.RowKit Ru PT

/-- the tokens of a grammar of more than three rules' numbers -/
def tkP : TK := ⟨⟨#[112]⟩, 1, 5, .mk 3 [] [.mk 2 [(99, 99)] [], .mk 2 [(99, 99)] []]⟩
def tkQ : TK := ⟨⟨#[113]⟩, 2, 6, .mk 3 [] [.mk 2 [(100, 100)] [], .mk 2 [(97, 97)] []]⟩
def T6 : List TK := T0 ++ [tkP, tkQ]
/-- which tokens a made-up grammar has -/
def MTok (T : List TK) : Prop := T = T0 ∨ T = T6
def nmA : ByteArray := ⟨#[97]⟩
def nmB : ByteArray := ⟨#[98]⟩
def nmO : ByteArray := ⟨#[111]⟩
def nmC : ByteArray := ⟨#[99]⟩
def nmP : ByteArray := ⟨#[112]⟩
def nmQ : ByteArray := ⟨#[113]⟩
theorem nm_ins {T : List TK} (h : MTok T) : ∀ ns, (ns = [nmA, nmB] ∨ ∃ x ∈ [nmA, nmB], ns = [x]) → Nm T 0 ns := by
  rintro ns (rfl | ⟨x, hx, rfl⟩)
  · rcases h with rfl | rfl <;> exact ⟨by kernel_rfl, by decide, by decide⟩
  · simp only [List.mem_cons, List.not_mem_nil, or_false] at hx
    rcases hx with rfl | rfl <;> rcases h with rfl | rfl <;> exact ⟨by kernel_rfl, by decide, by decide⟩
theorem nm_calls0 {T : List TK} (h : MTok T) : ∀ ns, (ns = [nmO] ∨ ∃ x ∈ [nmO], ns = [x]) → Nm T 1 ns := by
  rintro ns (rfl | ⟨x, hx, rfl⟩)
  · rcases h with rfl | rfl <;> exact ⟨by kernel_rfl, by decide, by decide⟩
  · simp only [List.mem_cons, List.not_mem_nil, or_false] at hx
    rcases hx with rfl; rcases h with rfl | rfl <;> exact ⟨by kernel_rfl, by decide, by decide⟩
theorem nm_rets0 {T : List TK} (h : MTok T) : ∀ ns, (ns = [nmC] ∨ ∃ x ∈ [nmC], ns = [x]) → Nm T 2 ns := by
  rintro ns (rfl | ⟨x, hx, rfl⟩)
  · rcases h with rfl | rfl <;> exact ⟨by kernel_rfl, by decide, by decide⟩
  · simp only [List.mem_cons, List.not_mem_nil, or_false] at hx
    rcases hx with rfl; rcases h with rfl | rfl <;> exact ⟨by kernel_rfl, by decide, by decide⟩
theorem nm_calls6 : ∀ ns, (ns = [nmO, nmP] ∨ ∃ x ∈ [nmO, nmP], ns = [x]) → Nm T6 1 ns := by
  rintro ns (rfl | ⟨x, hx, rfl⟩)
  · exact ⟨by kernel_rfl, by decide, by decide⟩
  · simp only [List.mem_cons, List.not_mem_nil, or_false] at hx
    rcases hx with rfl | rfl <;> exact ⟨by kernel_rfl, by decide, by decide⟩
theorem nm_rets6 : ∀ ns, (ns = [nmC, nmQ] ∨ ∃ x ∈ [nmC, nmQ], ns = [x]) → Nm T6 2 ns := by
  rintro ns (rfl | ⟨x, hx, rfl⟩)
  · exact ⟨by kernel_rfl, by decide, by decide⟩
  · simp only [List.mem_cons, List.not_mem_nil, or_false] at hx
    rcases hx with rfl | rfl <;> exact ⟨by kernel_rfl, by decide, by decide⟩
theorem re_fit2 {k : Int} {a b : RE} (ha : a.Fit) (hb : b.Fit) : (RE.mk k [] [a, b]).Fit :=
  .mk k [] [a, b] (by unfold i32s; decide) (by decide) (by simp) (fun i e h => by
    match i, h with
    | 0, h => cases h; exact ha
    | 1, h => cases h; exact hb
    | (n + 2), h => simp at h)
theorem T6_fit : TFit T6 := by
  rw [tfit_mem]
  intro t ht
  rcases List.mem_append.1 ht with h | h
  · exact tfit_mem.1 T0_fit t h
  · simp only [List.mem_cons, List.not_mem_nil, or_false] at h
    rcases h with rfl | rfl
    · exact ⟨by decide, re_fit2 (re_fit (by unfold i32s; decide) (by decide)) (re_fit (by unfold i32s; decide) (by decide))⟩
    · exact ⟨by decide, re_fit2 (re_fit (by unfold i32s; decide) (by decide)) (re_fit (by unfold i32s; decide) (by decide))⟩
theorem MTok.fit {T : List TK} (h : MTok T) : TFit T := by rcases h with rfl | rfl; exact T0_fit; exact T6_fit
theorem MTok.len {T : List TK} (h : MTok T) : 4 ≤ T.length ∧ T.length ≤ 6 := by rcases h with rfl | rfl <;> decide
theorem MTok.toks {T : List TK} (h : MTok T) : toksE T 0 T = none := by rcases h with rfl | rfl <;> kernel_rfl
/-- a step that a made-up rule may have -/
structure SGood (T : List TK) (first : Bool) (s : ST) : Prop where
  calls : s.calls = [] ∧ first = true ∨ Nm T 1 s.calls ∧ first = false
  p : PGood T s.p
theorem SGood.ok {T : List TK} {first : Bool} {s : ST} (h : SGood T first s) : stepE T first s = none := by
  unfold stepE
  rcases h.calls with ⟨h1, h2⟩ | ⟨h1, h2⟩
  · rw [h1, h2, if_neg (by simp)]
    exact orE_none rfl (by rw [if_neg (by rw [h.p.fits]; simp)]; exact h.p.ok)
  · rw [h2, if_neg (by have := h1.pos; simp; intro e; rw [e] at this; simp at this)]
    exact orE_none h1.ok (by rw [if_neg (by rw [h.p.fits]; simp)]; exact h.p.ok)
/-- a made-up rule -/
structure RGood (T : List TK) (r : RU) : Prop where
  cls : 0 ≤ r.cls ∧ r.cls ≤ 31
  len : 1 ≤ r.steps.length ∧ r.steps.length ≤ 2
  st : ∀ (i : Nat) (s : ST), r.steps[i]? = some s → SGood T (decide (i = 0) && !r.free) s
theorem steps_ok {T : List TK} {free : Bool} : ∀ (l : List ST) (k : Nat), (∀ (i : Nat) (s : ST), l[i]? = some s → SGood T (decide (k + i = 0) && !free) s) → stepsE T free k l = none := by
  intro l
  induction l with
  | nil => intro k _; exact stepsE_nil T free k
  | cons s l ih =>
    intro k h
    rw [stepsE_cons]
    exact orE_none (by have := (h 0 s rfl).ok; simpa using this) (ih (k + 1) (fun i t ht => by have := h (i + 1) t (by simpa using ht); simpa [Nat.add_assoc, Nat.add_comm 1 i] using this))
theorem RGood.ok {T : List TK} {r : RU} (h : RGood T r) : ruleE T r = none := by
  unfold ruleE
  have h1 := h.len
  rw [if_neg (by intro hn; exact hn ⟨h.cls, h1.1, by omega⟩)]
  exact steps_ok r.steps 0 (fun i s hs => by simpa using h.st i s hs)
theorem RGood.fit {T : List TK} {R : List RU} (h : ∀ r ∈ R, RGood T r) : RFit R := by
  intro i r hr
  have hg := h r (List.mem_of_getElem? hr)
  have := hg.len
  refine ⟨by omega, fun j s hs => ?_⟩
  have hs' := hg.st j s hs
  refine ⟨?_, hs'.p.fit⟩
  rcases hs'.calls with ⟨h1, -⟩ | ⟨h1, -⟩
  · rw [h1]; simp
  · have := h1.few; omega
/-- a broken token tells, whatever the rules -/
theorem chk_tok {T : List TK} (R : List RU) {e : Int × Int} (hl : 1 ≤ T.length ∧ T.length ≤ 16) (h : toksE T 0 T = some e) : chkE T R = e := by
  unfold chkE
  rw [if_neg (by omega), h]
def tkB : TK := ⟨⟨#[98]⟩, 0, 2, .mk 2 [(10, 10), (98, 98)] []⟩
def tkO : TK := ⟨⟨#[111]⟩, 1, 3, .mk 2 [(99, 99)] []⟩
theorem brk_3 {T : List TK} (h : MTok T) (R : List RU) : chkE (T.set 1 { tkB with re := .mk 5 [] [tkB.re] }) R = (11, 1) := by
  rcases h with rfl | rfl <;> exact chk_tok R (by decide) (by kernel_rfl)
end Go.Proofs.YtbanmggkfpnalaaGreatDoor
