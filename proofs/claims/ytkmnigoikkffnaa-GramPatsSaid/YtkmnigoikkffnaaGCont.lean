/- slices.Index and slices.Contains of strings. -/
import Derived.Test.YtkmnigoikkffnaaGNeed
set_option linter.unusedVariables false
set_option linter.unusedSimpArgs false
namespace Go.Proofs.Ytkmnigoikkffnaa
open Go.RowKit Ru

def memS (l : List ByteArray) (s : ByteArray) : Bool := l.any fun x => decide (x = s)
theorem memS_iff (l : List ByteArray) (s : ByteArray) : memS l s = true ↔ s ∈ l := by
  unfold memS
  rw [List.any_eq_true]
  constructor
  · rintro ⟨x, h1, h2⟩
    have := of_decide_eq_true h2
    subst this; exact h1
  · intro h; exact ⟨s, h, decide_eq_true rfl⟩
set_option maxHeartbeats 4000000 in
set_option maxRecDepth 100000 in
theorem indexS_any (l : List ByteArray) (v : Value) (s : ByteArray) (w : World) (h : Row w v l.length (strs l)) (hl : l.length ≤ 1000000) :
    Calls Try.prog 85 #[v, .string s] w fun e w' => ((∃ i : Nat, i < l.length ∧ e = .returned (.int .i64 i) ∧ s ∈ l) ∨ (e = .returned (.int .i64 (-1)) ∧ s ∉ l)) ∧ w = w' := by
  have h' := h
  obtain ⟨o, cap, rfl, _⟩ := h'
  have HR := Lib.hid h
  obtain ⟨n, hn⟩ : ∃ n, n = l.length := ⟨_, rfl⟩
  rw [← hn] at hl ⊢
  have HN := Lib.hid hn
  clear h hn
  go_enter Try.func85, Try.ntmps85
  go_wp2_with fail
  go_loopg [8] n (fun g i wx => ∃ k : Nat, k + g = n ∧ i = .int .i64 k ∧ wx = w ∧ ∀ j u, j < k → l[j]? = some u → u ≠ s)
  case atStart => exact ⟨0, by omega, rfl, rfl, fun j u hj => by omega⟩
  case round =>
    obtain ⟨k, hkg, rfl, rfl, hall⟩ := hrel
    have HA := Lib.hid hall
    clear hall
    cases gk with
    | zero =>
      obtain rfl : k = n := by omega
      have hd : decide ((k : Int) < (k : Int)) = false := by simp
      go_wp2_with fail
      go_ret
      refine ⟨.inr ⟨rfl, fun hm => ?_⟩, rfl⟩
      obtain ⟨j, hj, rfl⟩ := List.getElem_of_mem hm
      exact HA.out j _ (by have := HN.out; omega) (List.getElem?_eq_getElem hj) rfl
    | succ g =>
      have hk : k < n := by omega
      have hd : decide ((k : Int) < (n : Int)) = true := by simp; omega
      have hk1 : (0 : Int) ≤ (k : Int) := by omega
      have hk2 : (k : Int) < (n : Int) := by omega
      have hk9 : (k : Int) ≤ 1000000 := by omega
      obtain ⟨x, hx⟩ : ∃ x, l[k]? = some x := ⟨_, List.getElem?_eq_getElem (by have := HN.out; omega)⟩
      obtain ⟨b, f, p, e, hlt, hc⟩ := HR.out.cells' (by have := HN.out; omega)
      simp only [Value.slice.injEq, true_and] at e
      obtain ⟨rfl, rfl⟩ := e
      have c1 := hc k _ (strs_get hx)
      have HX := Lib.hid hx
      clear hc hx
      by_cases hxs : s = x
      · subst hxs
        go_wp2_with fail
        go_ret
        exact ⟨.inl ⟨k, hk, rfl, List.mem_of_getElem? HX.out⟩, rfl⟩
      · have hne : (s.toList == x.toList) = false := bytes_ne hxs
        have HNE := Lib.hid hxs
        clear hxs
        go_wp2
        go_roundg g
        case measure => omega
        case rel =>
          refine ⟨k + 1, by omega, by go_num, rfl, fun j u hj hu => ?_⟩
          rcases Nat.lt_or_ge j k with h | h
          · exact HA.out j u h hu
          · obtain rfl : j = k := by omega
            rw [HX.out] at hu; cases hu; exact fun e => HNE.out e.symm
set_option maxHeartbeats 4000000 in
theorem containsS_any (l : List ByteArray) (v : Value) (s : ByteArray) (w : World) (h : Row w v l.length (strs l)) (hl : l.length ≤ 1000000) :
    Calls Try.prog 74 #[v, .string s] w fun e w' => e = .returned (.bool (memS l s)) ∧ w = w' := by
  have h' := h
  obtain ⟨o, cap, rfl, _⟩ := h'
  have hc := indexS_any l _ s w h hl
  have HC := Lib.hid hc
  clear hc h
  go_enter Try.func74, Try.ntmps74
  go_wp2_with fail
  refine HC.out.mono ?_
  rintro e w' ⟨⟨i, hi, rfl, hm⟩ | ⟨rfl, hm⟩, rfl⟩
  · have hi0 : decide ((0 : Int) ≤ (i : Int)) = true := by simp
    have HM := Lib.hid ((memS_iff l s).2 hm)
    clear hm
    go_wp2_with fail
    go_ret
    exact ⟨by rw [HM.out]; rfl, rfl⟩
  · have HM := Lib.hid (show memS l s = false by cases h : memS l s with | false => rfl | true => exact absurd ((memS_iff l s).1 h) hm)
    clear hm
    go_wp2_with fail
    go_ret
    exact ⟨by rw [HM.out]; rfl, rfl⟩
end Go.Proofs.Ytkmnigoikkffnaa
