/- nfa.Build's first closure, and slices.ContainsFunc of it over expressions. -/
import Derived.Test.YtmgfpcblbbpahaaGreatNfGlu
set_option linter.unusedVariables false
set_option linter.unusedSimpArgs false
namespace Go.Proofs.YtmgfpcblbbpahaaGreat
open Go.RowKit Ru

/-- an expression that may not be: Build's first closure -/
theorem bad_any (e : RE) (sv lv : Value) (w : World) (h : ReIs w e sv lv) (hf : e.Fit) :
    Calls Tryz.prog 24 #[.agg #[.int .i64 e.kind, sv, lv]] w fun x w' => x = .returned (.bool (!e.may)) ∧ Below w.heap.size w w' := by
  obtain ⟨⟨o1, q1, rfl⟩, ⟨o2, q2, rfl⟩⟩ := h.form
  have hb1 : Below w.heap.size w (w.alloc (.cells #[.int .i64 e.kind, .slice o1 e.set.length q1, .slice o2 e.parts.length q2] 41)) := bel_new (Below.refl _ _) _
  have hm := reMay_any e _ _ _ (h.moved hb1) hf
  have HM := Lib.hid hm
  have HB := Lib.hid hb1
  clear h hm hb1 hf
  go_enter Tryz.func24, Tryz.ntmps24
  go_wp2_with (go_at_call 25; refine HM.out.mono ?_; rintro x w' ⟨rfl, hb⟩)
  go_ret
  exact ⟨rfl, bel_then HB.out hb⟩

set_option maxHeartbeats 4000000 in
set_option maxRecDepth 100000 in
theorem nfBad_index (n : Nat) (o : Option Addr) (cap : Nat) (c0 c1 c2 : Nat → Value) (St : Nat → World → Prop) (Fin : Nat → World → Prop) (w : World) (hn : n ≤ 1000000)
    (hel : ∀ i, i < n → ∃ b off, o = some ⟨b, off, none⟩ ∧ ∀ w', St i w' → w'.cell? ⟨b, off + i * 3, none⟩ = some (c0 i) ∧ w'.cell? ⟨b, off + i * 3 + 1, none⟩ = some (c1 i) ∧ w'.cell? ⟨b, off + i * 3 + 2, none⟩ = some (c2 i))
    (hf : ∀ i w', i < n → St i w' → Calls Tryz.prog 24 #[.agg #[c0 i, c1 i, c2 i]] w' fun e w'' => (e = .returned (.bool true) ∧ Fin i w'') ∨ (e = .returned (.bool false) ∧ St (i + 1) w''))
    (h0 : St 0 w) :
    Calls Tryz.prog 53 #[.slice o n cap, .func (Fn.func 24) #[] #[]] w fun e w' => (∃ i : Nat, i < n ∧ e = .returned (.int .i64 i) ∧ Fin i w') ∨ (e = .returned (.int .i64 (-1)) ∧ St n w') := by
  have HEL := Lib.hid hel
  have HF := Lib.hid hf
  clear hel hf
  go_enter Tryz.func53, Tryz.ntmps53
  go_wp2_with fail
  go_loopg [8] n (fun g i wx => ∃ k : Nat, k + g = n ∧ i = .int .i64 k ∧ St k wx)
  case atStart => exact ⟨0, by omega, rfl, h0⟩
  case round =>
    obtain ⟨k, hkg, rfl, hSt⟩ := hrel
    obtain ⟨wo, rfl⟩ : ∃ wo : World, wo = wr := ⟨_, rfl⟩
    cases gk with
    | zero =>
      obtain rfl : k = n := by omega
      have hd : decide ((k : Int) < (k : Int)) = false := by simp
      have HS := Lib.hid hSt
      clear hSt
      go_wp2
      go_ret
      exact .inr ⟨rfl, HS.out⟩
    | succ g =>
      have hk : k < n := by omega
      have hd : decide ((k : Int) < (n : Int)) = true := by simp; omega
      have hk1 : (0 : Int) ≤ (k : Int) := by omega
      have hk2 : (k : Int) < (n : Int) := by omega
      have hk9 : (k : Int) ≤ 1000000 := by omega
      obtain ⟨b, off, rfl, hcell⟩ := HEL.out k hk
      obtain ⟨k0, k1, k2⟩ := hcell wo hSt
      have hc := HF.out k wo hk hSt
      obtain ⟨d0, hd0⟩ : ∃ d, d = c0 k := ⟨_, rfl⟩
      rw [← hd0] at k0 hc
      clear hd0
      obtain ⟨d1, hd1⟩ : ∃ d, d = c1 k := ⟨_, rfl⟩
      rw [← hd1] at k1 hc
      clear hd1
      obtain ⟨d2, hd2⟩ : ∃ d, d = c2 k := ⟨_, rfl⟩
      rw [← hd2] at k2 hc
      clear hd2
      have HC := Lib.hid hc
      clear hcell hSt hc
      go_wp2_with fail
      refine HC.out.mono ?_
      rintro e w2 (⟨rfl, hfin⟩ | ⟨rfl, hst⟩)
      · have HX := Lib.hid hfin
        clear hfin
        go_wp2
        go_ret
        exact .inl ⟨k, hk, rfl, HX.out⟩
      · have HX := Lib.hid hst
        clear hst
        go_wp2
        go_roundg g
        case measure => omega
        case rel => exact ⟨k + 1, by omega, by go_num, HX.out⟩

set_option maxHeartbeats 4000000 in
set_option maxRecDepth 100000 in
theorem nfBad_contains (n : Nat) (o : Option Addr) (cap : Nat) (c0 c1 c2 : Nat → Value) (St : Nat → World → Prop) (Fin : Nat → World → Prop) (w : World) (hn : n ≤ 1000000)
    (hel : ∀ i, i < n → ∃ b off, o = some ⟨b, off, none⟩ ∧ ∀ w', St i w' → w'.cell? ⟨b, off + i * 3, none⟩ = some (c0 i) ∧ w'.cell? ⟨b, off + i * 3 + 1, none⟩ = some (c1 i) ∧ w'.cell? ⟨b, off + i * 3 + 2, none⟩ = some (c2 i))
    (hf : ∀ i w', i < n → St i w' → Calls Tryz.prog 24 #[.agg #[c0 i, c1 i, c2 i]] w' fun e w'' => (e = .returned (.bool true) ∧ Fin i w'') ∨ (e = .returned (.bool false) ∧ St (i + 1) w''))
    (h0 : St 0 w) :
    Calls Tryz.prog 26 #[.slice o n cap, .func (Fn.func 24) #[] #[]] w fun e w' => (∃ i : Nat, i < n ∧ e = .returned (.bool true) ∧ Fin i w') ∨ (e = .returned (.bool false) ∧ St n w') := by
  have hc := nfBad_index n o cap c0 c1 c2 St Fin w hn hel hf h0
  have HC := Lib.hid hc
  clear hc hf hel
  go_enter Tryz.func26, Tryz.ntmps26
  go_wp2_with fail
  refine HC.out.mono ?_
  rintro e w2 (⟨i, hi, rfl, hfin⟩ | ⟨rfl, hst⟩)
  · have HX := Lib.hid hfin
    have hi0 : decide ((0 : Int) ≤ (i : Int)) = true := by simp
    have hi9 : (i : Int) ≤ 1000000 := by omega
    clear hfin
    go_wp2
    go_ret
    exact .inl ⟨i, hi, rfl, HX.out⟩
  · have HX := Lib.hid hst
    clear hst
    go_wp2
    go_ret
    exact .inr ⟨rfl, HX.out⟩

/-- is there one among the parts of a node that may not be (Build's list: the parts of a node that is only thought) -/
theorem badL_any (e : RE) (sv lv : Value) (w : World) (hr : ReIs w e sv lv) (hf : e.Fit) :
    Calls Tryz.prog 26 #[lv, .func (Fn.func 24) #[] #[]] w fun x w' => x = .returned (.bool (e.parts.any fun p => !p.may)) ∧ Below w.heap.size w w' := by
  obtain ⟨o2, q2, c1, c2, rfl, hall⟩ := hr.all
  have hm1 := hf.sets
  have hc := nfBad_contains e.parts.length o2 q2 (fun i => .int .i64 (e.parts.getD i e).kind) c1 c2
    (fun i w'' => Below w.heap.size w w'' ∧ ∀ j, j < i → ∀ p, e.parts[j]? = some p → p.may = true)
    (fun i w'' => Below w.heap.size w w'' ∧ ∃ p, e.parts[i]? = some p ∧ p.may = false)
    w (by omega) (fun i hi => by
      obtain ⟨p, hp⟩ : ∃ p, e.parts[i]? = some p := ⟨e.parts[i], List.getElem?_eq_getElem hi⟩
      obtain ⟨hrp, b, off, rfl, hbl, k0, k1, k2⟩ := hall i p hp
      have hg : e.parts.getD i e = p := by rw [List.getD, hp]; rfl
      refine ⟨b, off, rfl, fun w'' hSt => ?_⟩
      rw [hg]
      exact ⟨(hSt.1.cell hbl).trans k0, (hSt.1.cell hbl).trans k1, (hSt.1.cell hbl).trans k2⟩) (fun i w'' hi hSt => by
      obtain ⟨hb1, hno⟩ := hSt
      obtain ⟨p, hp⟩ : ∃ p, e.parts[i]? = some p := ⟨e.parts[i], List.getElem?_eq_getElem hi⟩
      have hg : e.parts.getD i e = p := by rw [List.getD, hp]; rfl
      rw [hg]
      refine (bad_any p (c1 i) (c2 i) w'' ((hall i p hp).1.moved hb1) (hf.part hp)).mono ?_
      rintro x w4 ⟨rfl, hb4⟩
      cases hn : p.may with
      | false => exact .inl ⟨rfl, bel_then hb1 hb4, p, hp, hn⟩
      | true =>
        refine .inr ⟨rfl, bel_then hb1 hb4, fun j hj p' hp' => ?_⟩
        rcases Nat.lt_or_ge j i with h | h
        · exact hno j h p' hp'
        · obtain rfl : j = i := by omega
          rw [hp] at hp'; cases hp'; exact hn) ⟨Below.refl _ _, fun j hj => by omega⟩
  refine hc.mono ?_
  rintro x w5 (⟨i, hi, rfl, hb5, p, hp, hn⟩ | ⟨rfl, hb5, hno⟩)
  · refine ⟨?_, hb5⟩
    rw [List.any_eq_true.2 ⟨p, List.mem_of_getElem? hp, by rw [hn]; rfl⟩]
  · refine ⟨?_, hb5⟩
    rw [List.any_eq_false.2 fun p hp => ?_]
    obtain ⟨j, hj, rfl⟩ := List.mem_iff_getElem.1 hp
    rw [hno j hj _ (List.getElem?_eq_getElem hj)]
    simp
end Go.Proofs.YtmgfpcblbbpahaaGreat
