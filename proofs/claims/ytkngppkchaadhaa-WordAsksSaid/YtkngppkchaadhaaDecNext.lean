/- decode: second, and the closure that takes a byte. -/
import Derived.Test.YtkngppkchaadhaaChecked
import Derived.Test.YtkngppkchaadhaaProg
import Derived.Test.YtkngppkchaadhaaRows
import Derived.Test.YtkngppkchaadhaaBut
import Derived.Test.YtkngppkchaadhaaDecMath
import Derived.WalkKit
import Derived.WalkLawsBesides
import Derived.Lib.Hide
set_option linter.unusedVariables false
set_option linter.unusedSimpArgs false
namespace Go.Proofs.Ytkngppkchaadhaa
open Go.RowKit De

theorem second_any (c : Int) (w : World) : Calls Try.prog 75 #[.int .u8 c] w fun e w' =>
    e = .returned (.tuple #[.int .u8 (if c = 224 then 160 else if c = 240 then 144 else 128), .int .u8 (if c = 237 then 159 else if c = 244 then 143 else 191)]) ∧ w = w' := by
  by_cases h1 : c = 224
  · subst h1
    go_enter Try.func75, Try.ntmps75
    go_wp2
    go_ret2
    exact ⟨rfl, rfl⟩
  by_cases h2 : c = 237
  · subst h2
    go_enter Try.func75, Try.ntmps75
    go_wp2
    go_ret2
    exact ⟨rfl, rfl⟩
  by_cases h3 : c = 240
  · subst h3
    go_enter Try.func75, Try.ntmps75
    go_wp2
    go_ret2
    exact ⟨rfl, rfl⟩
  by_cases h4 : c = 244
  · subst h4
    go_enter Try.func75, Try.ntmps75
    go_wp2
    go_ret2
    exact ⟨rfl, rfl⟩
  · have g1 : (c == 224) = false := by simpa using h1
    have g2 : (c == 237) = false := by simpa using h2
    have g3 : (c == 240) = false := by simpa using h3
    have g4 : (c == 244) = false := by simpa using h4
    rw [if_neg h1, if_neg h2, if_neg h3, if_neg h4]
    go_enter Try.func75, Try.ntmps75
    go_wp2
    go_ret2
    exact ⟨rfl, rfl⟩

/-- the variables good and b of one: g bytes taken of bs; wr: the world in which the bytes lie -/
structure St (wr w : World) (qg qb : Nat) (g : Nat) (v : Value) (bs : List Int) : Prop where
  good : w.heap[qg]? = some (.cells #[.int .i64 g] 3 (0, 0))
  held : w.heap[qb]? = some (.cells #[v] 40 (0, 0))
  row : Row wr v bs.length (bs.map (Value.int .u8))
  bel : Below wr.heap.size wr w
  qgw : wr.heap.size ≤ qg
  qbw : wr.heap.size ≤ qb
  ne : qg ≠ qb
  small : bs.length ≤ 1000000000

theorem St.step {wr w : World} {qg qb g : Nat} {v : Value} {bs : List Int} (h : St wr w qg qb g v bs) (g' : Nat) : St wr (w.setCell ⟨qg, 0, none⟩ (.int .i64 g')) qg qb g' v bs :=
  ⟨setc h.good _, by rw [Below.heap_setCell w _ _ qb (fun e => h.ne e.symm)]; exact h.held, h.row, h.bel.setCell h.qgw _, h.qgw, h.qbw, h.ne, h.small⟩

abbrev broke (short : Bool) : Ending := .panicked [{ v := .iface 87 (.agg #[.bool short]), recovered := false }]
/-- what next does at g -/
def NextPost (bs : List Int) (g : Nat) (lo hi : Int) (qg : Nat) (w : World) (e : Ending) (w' : World) : Prop :=
  (∃ c, bs[g]? = some c ∧ lo ≤ c ∧ c ≤ hi ∧ e = .returned (.int .i32 c) ∧ w' = w.setCell ⟨qg, 0, none⟩ (.int .i64 ((g + 1 : Nat) : Int))) ∨
  (bs[g]? = none ∧ e = broke true ∧ w' = w) ∨ (∃ c, bs[g]? = some c ∧ ¬ (lo ≤ c ∧ c ≤ hi) ∧ e = broke false ∧ w' = w)

set_option maxHeartbeats 1000000 in
set_option maxRecDepth 1000000 in
theorem next_any (wr : World) (qg qb g : Nat) (v : Value) (bs : List Int) (lo hi : Int) (w : World) (hS : St wr w qg qb g v bs) (hg0 : g ≤ bs.length) (hu : ∀ x ∈ bs, 0 ≤ x ∧ x < 256) :
    Calls Try.prog 59 #[.int .u8 lo, .int .u8 hi, .pointer (some ⟨qg, 0, none⟩), .pointer (some ⟨qb, 0, none⟩)] w (NextPost bs g lo hi qg w) := by
  have HS := Lib.hid hS
  obtain ⟨hg, hb, hr, hbel, hqg, hqb, hne, hn⟩ := hS
  obtain ⟨cG, fG⟩ := cell1_of hg
  obtain ⟨cB, fB⟩ := cell1_of hb
  have hr2 := hr.below hbel
  clear hg hb hne hbel
  by_cases hlt : g < bs.length
  · obtain ⟨o, cap, rfl, hcap, hmax, hrow⟩ := hr
    rcases hrow with ⟨h0, _⟩ | ⟨b, off, rfl, hbl, hcc⟩
    · omega
    obtain ⟨_, _, e2, _, _, hrow2⟩ := hr2
    rcases hrow2 with ⟨h0, _⟩ | ⟨b', off', e3, hbl2, hcc2⟩
    · omega
    simp only [Value.slice.injEq, true_and] at e2
    obtain ⟨e4, rfl⟩ := e2
    rw [e3] at e4
    simp only [Option.some.injEq, Addr.mk.injEq, and_true] at e4
    obtain ⟨rfl, rfl⟩ := e4
    obtain ⟨c, hc⟩ : ∃ c, bs[g]? = some c := ⟨bs[g], List.getElem?_eq_getElem hlt⟩
    have hcu := hu c (List.mem_of_getElem? hc)
    have hcell : w.cell? ⟨b, off + g, none⟩ = some (.int .u8 c) := hcc2 g _ (by rw [List.getElem?_map, hc]; rfl)
    have hbq : ¬ b = qg := by omega
    have hbb : ¬ b = qb := by omega
    have hqq : ¬ qb = qg := fun e => HS.out.ne e.symm
    have HC := Lib.hid hc
    clear hcc hcc2 hc hu
    have hg1 : (decide ((g : Int) = (bs.length : Int))) = false := by simp; omega
    have hg2 : (((g : Int) == (bs.length : Int))) = false := by simp; omega
    by_cases h1 : c < lo
    · go_enter Try.func59, Try.ntmps59
      go_wp2
      exact ⟨rfl, .inr (.inr ⟨c, HC.out, by omega, rfl, rfl⟩)⟩
    by_cases h2 : hi < c
    · go_enter Try.func59, Try.ntmps59
      go_wp2
      exact ⟨rfl, .inr (.inr ⟨c, HC.out, by omega, rfl, rfl⟩)⟩
    · go_enter Try.func59, Try.ntmps59
      go_wp2
      go_ret
      exact .inl ⟨c, HC.out, by omega, by omega, rfl, by simp⟩
  · obtain rfl : g = bs.length := by omega
    have hnone : bs[bs.length]? = none := by simp
    have HC := Lib.hid hnone
    obtain ⟨o, cap, rfl, hcap, hmax, _⟩ := hr
    clear hnone hr2 hu
    go_enter Try.func59, Try.ntmps59
    go_wp2
    exact ⟨rfl, .inr (.inl ⟨HC.out, rfl, rfl⟩)⟩
end Go.Proofs.Ytkngppkchaadhaa
