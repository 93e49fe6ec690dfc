/- nfa.Build of a list that it does not take. -/
import Derived.Test.YtmgfpcblbbpahaaGreatNfBad
set_option linter.unusedVariables false
set_option linter.unusedSimpArgs false
namespace Go.Proofs.YtmgfpcblbbpahaaGreat
open Go.RowKit Ru

/-- what Build takes: one to sixteen expressions that may be -/
def Nf.takes (l : List RE) : Bool := decide (1 ≤ l.length) && decide (l.length ≤ 16) && l.all RE.may
set_option maxHeartbeats 1000000 in
set_option maxRecDepth 100000 in
theorem build_bad (e : RE) (sv lv : Value) (w : World) (hr : ReIs w e sv lv) (hf : e.Fit) (hbad : Nf.takes e.parts = false) :
    Calls Tryz.prog 8 #[lv] w fun x w' => x = .returned (.tuple #[.pointer none, .int .i64 1]) ∧ Below w.heap.size w w' := by
  have hc := badL_any e sv lv w hr hf
  obtain ⟨o2, q2, c1, c2, rfl, hall⟩ := hr.all
  have hlen := hf.sets.2.2
  by_cases h1 : (e.parts.length : Int) < 1
  · clear hall hr hf hc hbad
    go_enter Tryz.func8, Tryz.ntmps8
    go_wp2_with fail
    go_ret2
    exact ⟨rfl, Below.refl _ _⟩
  · by_cases h2 : (16 : Int) < (e.parts.length : Int)
    · clear hall hr hf hc hbad
      go_enter Tryz.func8, Tryz.ntmps8
      go_wp2_with fail
      go_ret2
      exact ⟨rfl, Below.refl _ _⟩
    · have hany : (e.parts.any fun p => !p.may) = true := by
        have h3 : e.parts.all RE.may = false := by
          unfold Nf.takes at hbad
          rw [decide_eq_true (show 1 ≤ e.parts.length by omega), decide_eq_true (show e.parts.length ≤ 16 by omega)] at hbad
          simpa using hbad
        rw [List.all_eq_not_any_not] at h3
        simpa using h3
      rw [hany] at hc
      have HC := Lib.hid hc
      clear hall hr hf hc hbad hany
      go_enter Tryz.func8, Tryz.ntmps8
      go_wp2_with (go_at_call 26; refine HC.out.mono ?_; rintro x w' ⟨rfl, hb⟩)
      go_ret2
      exact ⟨rfl, hb⟩
end Go.Proofs.YtmgfpcblbbpahaaGreat
