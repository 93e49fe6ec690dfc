/- regex.Sets: what its closure holds while it goes. -/
import Derived.Test.YtmgfpcblbbpahaaGreatNfGlu
import Derived.Test.YtmgfpcblbbpahaaGreatNfMath
import Derived.Lib.RowBridge
import Derived.Lib.SliceRun
import Derived.Deep.LoopGhost
import Derived.Deep.RegionLaw
set_option linter.unusedVariables false
set_option linter.unusedSimpArgs false
namespace Go.Proofs.YtmgfpcblbbpahaaGreat
open Go.RowKit Ru

theorem bad_any (e : RE) (sv lv : Value) (w : World) (h : ReIs w e sv lv) (hf : e.Fit) :
    Calls Tryz.prog 24 #[.agg #[.int .i64 e.kind, sv, lv]] w fun x w' => x = .returned (.bool (!e.may)) ∧ Below w.heap.size w w' := by
  obtain ⟨⟨o1, q1, rfl⟩, ⟨o2, q2, rfl⟩⟩ := h.form
  have hb1 : Below w.heap.size w (w.alloc (.cells #[.int .i64 e.kind, .slice o1 e.set.length q1, .slice o2 e.parts.length q2] 41)) := bel_new (Below.refl _ _) _
  have hm := reMay_any e _ _ _ (h.moved hb1) hf
  have HM := Lib.hid hm
  have HB := Lib.hid hb1
  clear h hm hb1 hf
  go_enter Tryz.func24, Tryz.ntmps24
  go_wp2_with (go_at_call 25; refine HM.out.mono ?_; rintro x w' ⟨rfl, hb⟩)
  go_ret
  exact ⟨rfl, bel_then HB.out hb⟩

set_option maxHeartbeats 4000000 in
set_option maxRecDepth 100000 in
theorem nfBad_index (n : Nat) (o : Option Addr) (cap : Nat) (c0 c1 c2 : Nat → Value) (St : Nat → World → Prop) (Fin : Nat → World → Prop) (w : World) (hn : n ≤ 1000000)
    (hel : ∀ i, i < n → ∃ b off, o = some ⟨b, off, none⟩ ∧ ∀ w', St i w' → w'.cell? ⟨b, off + i * 3, none⟩ = some (c0 i) ∧ w'.cell? ⟨b, off + i * 3 + 1, none⟩ = some (c1 i) ∧ w'.cell? ⟨b, off + i * 3 + 2, none⟩ = some (c2 i))
    (hf : ∀ i w', i < n → St i w' → Calls Tryz.prog 24 #[.agg #[c0 i, c1 i, c2 i]] w' fun e w'' => (e = .returned (.bool true) ∧ Fin i w'') ∨ (e = .returned (.bool false) ∧ St (i + 1) w''))
    (h0 : St 0 w) :
    Calls Tryz.prog 53 #[.slice o n cap, .func (Fn.func 24) #[] #[]] w fun e w' => (∃ i : Nat, i < n ∧ e = .returned (.int .i64 i) ∧ Fin i w') ∨ (e = .returned (.int .i64 (-1)) ∧ St n w') := by
  have HEL := Lib.hid hel
  have HF := Lib.hid hf
  clear hel hf
  go_enter Tryz.func53, Tryz.ntmps53
  go_wp2_with fail
  go_loopg [8] n (fun g i wx => ∃ k : Nat, k + g = n ∧ i = .int .i64 k ∧ St k wx)
  case atStart => exact ⟨0, by omega, rfl, h0⟩
  case round =>
    obtain ⟨k, hkg, rfl, hSt⟩ := hrel
    obtain ⟨wo, rfl⟩ : ∃ wo : World, wo = wr := ⟨_, rfl⟩
    cases gk with
    | zero =>
      obtain rfl : k = n := by omega
      have hd : decide ((k : Int) < (k : Int)) = false := by simp
      have HS := Lib.hid hSt
      clear hSt
      go_wp2
      go_ret
      exact .inr ⟨rfl, HS.out⟩
    | succ g =>
      have hk : k < n := by omega
      have hd : decide ((k : Int) < (n : Int)) = true := by simp; omega
      have hk1 : (0 : Int) ≤ (k : Int) := by omega
      have hk2 : (k : Int) < (n : Int) := by omega
      have hk9 : (k : Int) ≤ 1000000 := by omega
      obtain ⟨b, off, rfl, hcell⟩ := HEL.out k hk
      obtain ⟨k0, k1, k2⟩ := hcell wo hSt
      have hc := HF.out k wo hk hSt
      obtain ⟨d0, hd0⟩ : ∃ d, d = c0 k := ⟨_, rfl⟩
      rw [← hd0] at k0 hc
      clear hd0
      obtain ⟨d1, hd1⟩ : ∃ d, d = c1 k := ⟨_, rfl⟩
      rw [← hd1] at k1 hc
      clear hd1
      obtain ⟨d2, hd2⟩ : ∃ d, d = c2 k := ⟨_, rfl⟩
      rw [← hd2] at k2 hc
      clear hd2
      have HC := Lib.hid hc
      clear hcell hSt hc
      go_wp2_with fail
      refine HC.out.mono ?_
      rintro e w2 (⟨rfl, hfin⟩ | ⟨rfl, hst⟩)
      · have HX := Lib.hid hfin
        clear hfin
        go_wp2
        go_ret
        exact .inl ⟨k, hk, rfl, HX.out⟩
      · have HX := Lib.hid hst
        clear hst
        go_wp2
        go_roundg g
        case measure => omega
        case rel => exact ⟨k + 1, by omega, by go_num, HX.out⟩

set_option maxHeartbeats 4000000 in
set_option maxRecDepth 100000 in
theorem nfBad_contains (n : Nat) (o : Option Addr) (cap : Nat) (c0 c1 c2 : Nat → Value) (St : Nat → World → Prop) (Fin : Nat → World → Prop) (w : World) (hn : n ≤ 1000000)
    (hel : ∀ i, i < n → ∃ b off, o = some ⟨b, off, none⟩ ∧ ∀ w', St i w' → w'.cell? ⟨b, off + i * 3, none⟩ = some (c0 i) ∧ w'.cell? ⟨b, off + i * 3 + 1, none⟩ = some (c1 i) ∧ w'.cell? ⟨b, off + i * 3 + 2, none⟩ = some (c2 i))
    (hf : ∀ i w', i < n → St i w' → Calls Tryz.prog 24 #[.agg #[c0 i, c1 i, c2 i]] w' fun e w'' => (e = .returned (.bool true) ∧ Fin i w'') ∨ (e = .returned (.bool false) ∧ St (i + 1) w''))
    (h0 : St 0 w) :
    Calls Tryz.prog 26 #[.slice o n cap, .func (Fn.func 24) #[] #[]] w fun e w' => (∃ i : Nat, i < n ∧ e = .returned (.bool true) ∧ Fin i w') ∨ (e = .returned (.bool false) ∧ St n w') := by
  have hc := nfBad_index n o cap c0 c1 c2 St Fin w hn hel hf h0
  have HC := Lib.hid hc
  clear hc hf hel
  go_enter Tryz.func26, Tryz.ntmps26
  go_wp2_with fail
  refine HC.out.mono ?_
  rintro e w2 (⟨i, hi, rfl, hfin⟩ | ⟨rfl, hst⟩)
  · have HX := Lib.hid hfin
    have hi0 : decide ((0 : Int) ≤ (i : Int)) = true := by simp
    have hi9 : (i : Int) ≤ 1000000 := by omega
    clear hfin
    go_wp2
    go_ret
    exact .inl ⟨i, hi, rfl, HX.out⟩
  · have HX := Lib.hid hst
    clear hst
    go_wp2
    go_ret
    exact .inr ⟨rfl, HX.out⟩

theorem badL_any (e : RE) (sv lv : Value) (w : World) (hr : ReIs w e sv lv) (hf : e.Fit) :
    Calls Tryz.prog 26 #[lv, .func (Fn.func 24) #[] #[]] w fun x w' => x = .returned (.bool (e.parts.any fun p => !p.may)) ∧ Below w.heap.size w w' := by
  obtain ⟨o2, q2, c1, c2, rfl, hall⟩ := hr.all
  have hm1 := hf.sets
  have hc := nfBad_contains e.parts.length o2 q2 (fun i => .int .i64 (e.parts.getD i e).kind) c1 c2
    (fun i w'' => Below w.heap.size w w'' ∧ ∀ j, j < i → ∀ p, e.parts[j]? = some p → p.may = true)
    (fun i w'' => Below w.heap.size w w'' ∧ ∃ p, e.parts[i]? = some p ∧ p.may = false)
    w (by omega) (fun i hi => by
      obtain ⟨p, hp⟩ : ∃ p, e.parts[i]? = some p := ⟨e.parts[i], List.getElem?_eq_getElem hi⟩
      obtain ⟨hrp, b, off, rfl, hbl, k0, k1, k2⟩ := hall i p hp
      have hg : e.parts.getD i e = p := by rw [List.getD, hp]; rfl
      refine ⟨b, off, rfl, fun w'' hSt => ?_⟩
      rw [hg]
      exact ⟨(hSt.1.cell hbl).trans k0, (hSt.1.cell hbl).trans k1, (hSt.1.cell hbl).trans k2⟩) (fun i w'' hi hSt => by
      obtain ⟨hb1, hno⟩ := hSt
      obtain ⟨p, hp⟩ : ∃ p, e.parts[i]? = some p := ⟨e.parts[i], List.getElem?_eq_getElem hi⟩
      have hg : e.parts.getD i e = p := by rw [List.getD, hp]; rfl
      rw [hg]
      refine (bad_any p (c1 i) (c2 i) w'' ((hall i p hp).1.moved hb1) (hf.part hp)).mono ?_
      rintro x w4 ⟨rfl, hb4⟩
      cases hn : p.may with
      | false => exact .inl ⟨rfl, bel_then hb1 hb4, p, hp, hn⟩
      | true =>
        refine .inr ⟨rfl, bel_then hb1 hb4, fun j hj p' hp' => ?_⟩
        rcases Nat.lt_or_ge j i with h | h
        · exact hno j h p' hp'
        · obtain rfl : j = i := by omega
          rw [hp] at hp'; cases hp'; exact hn) ⟨Below.refl _ _, fun j hj => by omega⟩
  refine hc.mono ?_
  rintro x w5 (⟨i, hi, rfl, hb5, p, hp, hn⟩ | ⟨rfl, hb5, hno⟩)
  · refine ⟨?_, hb5⟩
    rw [List.any_eq_true.2 ⟨p, List.mem_of_getElem? hp, by rw [hn]; rfl⟩]
  · refine ⟨?_, hb5⟩
    rw [List.any_eq_false.2 fun p hp => ?_]
    obtain ⟨j, hj, rfl⟩ := List.mem_iff_getElem.1 hp
    rw [hno j hj _ (List.getElem?_eq_getElem hj)]
    simp
end Go.Proofs.YtmgfpcblbbpahaaGreat

namespace Go.Proofs.YtmgfpcblbbpahaaGreat
open Go.RowKit Ru

namespace Nf
structure BS where
  k : Nat
  n : Int
  F : List (List Int)
  E : List (List Int)
def bst (x : BS) (e : RE) : BS :=
  ⟨x.k + 1, (pt e x.n x.F).2.1, linkF (pt e x.n x.F).2.2 [0] (pt e x.n x.F).1.2.1, linkF (if (pt e x.n x.F).1.1 = true then linkF x.E [0] [(x.k : Int)] else x.E) (pt e x.n x.F).1.2.2 [(x.k : Int)]⟩
def bl (l : List RE) (x : BS) : BS := l.foldl bst x
def b0 (N : Nat) : BS := ⟨0, 1, List.replicate N [], List.replicate N []⟩
theorem bl_next (l : List RE) (x : BS) (k : Nat) (e : RE) (h : l[k]? = some e) : bl (l.take (k + 1)) x = bst (bl (l.take k) x) e := by
  unfold bl
  rw [List.take_add_one, h, List.foldl_append]
  rfl
theorem stsL_next (l : List RE) (k : Nat) (e : RE) (h : l[k]? = some e) : stsL (l.take (k + 1)) = stsL (l.take k) ++ sts e := by
  have hA : ∀ (a b : List RE), stsL (a ++ b) = stsL a ++ stsL b := by
    intro a b
    induction a with
    | nil => rw [stsL_nil]; rfl
    | cons x a ih => rw [List.cons_append, stsL_cons, stsL_cons, ih, List.append_assoc]
  rw [List.take_add_one, h, hA]
  simp [stsL_cons, stsL_nil]
structure BOk (N i m : Nat) (x : BS) : Prop where
  k : x.k = i
  n : x.n = 1 + (m : Int)
  lf : x.F.length = N
  le : x.E.length = N
  rf : ∀ r ∈ x.F, r.length ≤ i * 216060
  re : ∀ r ∈ x.E, r.length ≤ i + m
  mf : ∀ r ∈ x.F, ∀ y ∈ r, 0 ≤ y ∧ y < (N : Int)
  me : ∀ r ∈ x.E, ∀ y ∈ r, 0 ≤ y ∧ y < (i : Int)
theorem b0_ok (N : Nat) : BOk N 0 0 (b0 N) := by
  refine ⟨rfl, rfl, List.length_replicate, List.length_replicate, ?_, ?_, ?_, ?_⟩ <;> (intro r hr; rw [(List.mem_replicate.1 hr).2]; simp)
theorem bst_ok {N i m : Nat} {x : BS} (h : BOk N i m x) (e : RE) (hp : e.prt = true) (hs : e.size ≤ 60) (hm : m + (sts e).length + 1 ≤ N) : BOk N (i + 1) (m + (sts e).length) (bst x e) := by
  have hpt := pt_ok e.size e (Nat.le_refl _) hp x.n x.F (by rw [h.n]; omega)
  have hss := sts_size e.size e (Nat.le_refl _) hp
  have hnx := hpt.nxt
  have hn := h.n
  have hk := h.k
  unfold bst
  generalize pt e x.n x.F = r at hpt hnx
  have h1 := hpt.fl
  have h2 := hpt.ll
  have hsq : (sts e).length * (sts e).length ≤ 60 * 60 := Nat.mul_le_mul (by omega) (by omega)
  have hsz : e.size * ((sts e).length * (sts e).length) ≤ 60 * (60 * 60) := Nat.mul_le_mul hs hsq
  refine ⟨by simp [hk], by show r.2.1 = _; rw [hnx, hn]; omega, by show (linkF r.2.2 [0] r.1.2.1).length = N; rw [linkF_len, hpt.len, h.lf], ?_, ?_, ?_, ?_, ?_⟩
  · show (linkF (if r.1.1 = true then linkF x.E [0] [(x.k : Int)] else x.E) r.1.2.2 [(x.k : Int)]).length = N
    rw [linkF_len]; split
    · rw [linkF_len, h.le]
    · exact h.le
  · intro q hq
    have := linkF_row r.1.2.1 _ [0] r.2.2 (hpt.row _ h.rf) q hq
    simp only [List.length_singleton, Nat.one_mul] at this
    omega
  · intro q hq
    have := linkF_row [(x.k : Int)] (i + 1 + m) r.1.2.2 (if r.1.1 = true then linkF x.E [0] [(x.k : Int)] else x.E) (fun q hq => by
      split at hq
      · have := linkF_row [(x.k : Int)] _ [0] x.E h.re q hq
        simp only [List.length_singleton, Nat.one_mul] at this
        omega
      · have := h.re q hq; omega) q hq
    simp only [List.length_singleton, Nat.mul_one] at this
    omega
  · refine linkF_mem r.1.2.1 (fun y => 0 ≤ y ∧ y < (N : Int)) (fun y hy => ?_) [0] r.2.2 (hpt.mem N (by rw [hnx, hn]; omega) h.mf)
    have := hpt.fst y hy
    rw [hnx, hn] at this
    omega
  · refine linkF_mem [(x.k : Int)] (fun y => 0 ≤ y ∧ y < ((i + 1 : Nat) : Int)) (fun y hy => ?_) r.1.2.2 _ ?_
    · rw [List.mem_singleton.1 hy]; omega
    · split
      · refine linkF_mem [(x.k : Int)] (fun y => 0 ≤ y ∧ y < ((i + 1 : Nat) : Int)) (fun y hy => ?_) [0] _ (fun q hq y hy => ?_)
        · rw [List.mem_singleton.1 hy]; omega
        · have := h.me q hq y hy; omega
      · intro q hq y hy; have := h.me q hq y hy; omega
theorem bl_ok (l : List RE) (hl : ∀ e ∈ l, e.prt = true ∧ e.size ≤ 60) : ∀ i, i ≤ l.length → BOk (1 + (stsL l).length) i (stsL (l.take i)).length (bl (l.take i) (b0 (1 + (stsL l).length))) := by
  intro i
  induction i with
  | zero => intro _; rw [List.take_zero, stsL_nil]; exact b0_ok _
  | succ i ih =>
    intro hi
    obtain ⟨e, he⟩ : ∃ e, l[i]? = some e := ⟨l[i], List.getElem?_eq_getElem (by omega)⟩
    have hle := hl e (List.mem_of_getElem? he)
    rw [bl_next l _ i e he, stsL_next l i e he, List.length_append]
    refine bst_ok (ih (by omega)) e hle.1 hle.2 ?_
    have h1 := stsL_next l i e he
    have h2 : ∀ (j : Nat), (stsL (l.take j)).length ≤ (stsL l).length := by
      intro j
      induction j with
      | zero => rw [List.take_zero, stsL_nil]; simp
      | succ j ihj =>
        have hA : ∀ (a b : List RE), (stsL (a ++ b)).length = (stsL a).length + (stsL b).length := by
          intro a b
          induction a with
          | nil => rw [stsL_nil]; simp
          | cons x a ih => rw [List.cons_append, stsL_cons, stsL_cons, List.length_append, List.length_append, ih]; omega
        have := hA (l.take (j + 1)) (l.drop (j + 1))
        rw [List.take_append_drop] at this
        omega
    have h3 := h2 (i + 1)
    rw [h1, List.length_append] at h3
    omega
theorem stsL_size (l : List RE) (hl : ∀ e ∈ l, e.prt = true ∧ e.size ≤ 60) : (stsL l).length ≤ l.length * 60 := by
  induction l with
  | nil => rw [stsL_nil]; simp
  | cons e l ih =>
    have h1 := hl e (by simp)
    have h2 := sts_size e.size e (Nat.le_refl _) h1.1
    have h3 := ih (fun e he => hl e (by simp [he]))
    rw [stsL_cons, List.length_append, List.length_cons, Nat.succ_mul]
    omega
end Nf
end Go.Proofs.YtmgfpcblbbpahaaGreat

namespace Go.Proofs.YtmgfpcblbbpahaaGreat
open Go.RowKit Ru

set_option maxHeartbeats 1000000 in
set_option maxRecDepth 1000000 in
theorem cloneR_any (C : List Pc) (v : Value) (w : World) (hr : Row w v C.length (flatK .i32 C)) (hn : C.length ≤ 1000000) :
    Calls Tryz.prog 47 #[v] w fun e w' => ∃ u, e = .returned u ∧ w'.ownsRow w.heap.size 54 2 u C.length (flatK .i32 C) ∧ Below w.heap.size w w' := by
  obtain ⟨i0, hi, hz0, hz1, hz2⟩ := infoRange
  have HR := Lib.hid hr
  have q22 : ∀ (w : World) (a : Option Addr) (n c n' c' : Nat), (binOp .eql 39 (.slice a n c) (.slice none n' c')).run Tryz.prog w = .ok (.bool a.isNone) w := fun w a n c n' c' => Lib.run_eql_slice_nil w _ _ a n c n' c' Tryz.underlying39
  obtain ⟨o, c, rfl⟩ : ∃ o c, v = .slice o C.length c := by obtain ⟨o, c, e, _⟩ := hr; exact ⟨o, c, e⟩
  have hl : (flatK .i32 C).length = C.length * 2 := flatK_len _ _
  cases o with
  | none =>
    have h0 : C.length = 0 := by
      obtain ⟨o', c', e, h1, h2, h3⟩ := HR.out
      simp only [Value.slice.injEq, true_and] at e
      obtain ⟨rfl, rfl⟩ := e
      rcases h3 with ⟨h, _⟩ | ⟨b, off, e, _⟩
      · exact h
      · cases e
    have hC : C = [] := List.length_eq_zero_iff.1 h0
    subst hC
    clear hr hl h0
    go_enter Tryz.func47, Tryz.ntmps47
    go_wp2_with fail
    go_ret
    exact ⟨_, rfl, World.ownsRow_nil _ _ _ _, Below.refl _ _⟩
  | some a =>
    have HL := Lib.hid hl
    clear hr hl
    have hown : (w.alloc (.cells #[] 54)).ownsRow w.heap.size 54 2 (.slice (some ⟨w.heap.size, 0, none⟩) 0 0) 0 [] :=
      ⟨rfl, .inr ⟨w.heap.size, _, _, rfl, Nat.le_refl _, heap_alloc_new w _, Nat.le_refl _, by simp [maxLen], rfl, rfl⟩⟩
    have hb1 : Below w.heap.size w (w.alloc (.cells #[] 54)) := bel_new (Below.refl _ _) _
    go_enter Tryz.func47, Tryz.ntmps47
    go_wp2_with (at_builtin; refine wpList_append_row _ rfl _ _ 39 rfl w.heap.size 54 i0 (.agg #[.int .i32 0, .int .i32 0]) 2 8 Tryz.underlying39 hi hz0 hz1 hz2 rfl (by decide) _ _ _ rfl hown _ C.length (flatK .i32 C) rfl (HR.out.below hb1) HL.out (flatK_one _ _) (by unfold maxLen; omega) (by omega) hb1.size ?_; intro v2 w2 hown2 hg2)
    have hb2 : Below w.heap.size w w2 := bel_grown hb1 hg2 (fun j hj => (hown.lt j hj).1)
    rw [List.nil_append, Nat.zero_add] at hown2
    have H3 := Lib.hid (And.intro hown2 hb2)
    clear hown2 hg2 hb2
    go_wp2_with fail
    go_ret
    exact ⟨_, rfl, H3.out.1, H3.out.2⟩
end Go.Proofs.YtmgfpcblbbpahaaGreat

namespace Go.Proofs.YtmgfpcblbbpahaaGreat
open Go.RowKit Ru

abbrev SFn (ql qv : Nat) : Value := .func (Fn.func 54) #[] #[.pointer (some ⟨ql, 0, none⟩), .pointer (some ⟨qv, 0, none⟩)]
def Kt (w w' : World) : Prop := ∀ (k : Nat) (cs : Array Value) (t : TypeId) (z : Nat × Nat), w.heap[k]? = some (.cells cs t z) → t ≠ 46 → t ≠ 39 → w'.heap[k]? = some (.cells cs t z)
theorem Kt.refl (w : World) : Kt w w := fun _ _ _ _ h _ _ => h
theorem Kt.trans {a b c : World} (h : Kt a b) (k : Kt b c) : Kt a c := fun i cs t z hi h1 h2 => k i cs t z (h i cs t z hi h1 h2) h1 h2
theorem Kt.of {w w' : World} (h : Below w.heap.size w w') : Kt w w' := fun i cs t z hi _ _ => by rw [h.block i (Array.getElem?_eq_some_iff.1 hi).1]; exact hi
theorem own_typ {w : World} {B s n k : Nat} {e : TypeId} {v : Value} {xs : List Value} (h : w.ownsRow B e s v n xs) (hk : v.ownBlock = some k) : ∃ cur, w.heap[k]? = some (.cells cur e (0, 0)) := by
  rcases h.2 with ⟨h0, _⟩ | ⟨g, cap, cur, hv, hb, hg, _⟩
  · rw [h0] at hk; simp [Value.ownBlock] at hk
  · rw [hv] at hk
    simp [Value.ownBlock] at hk
    subst hk
    exact ⟨cur, hg⟩
theorem own_apart {w : World} {B s n k : Nat} {e t : TypeId} {v : Value} {xs : List Value} {cs : Array Value} {z : Nat × Nat} (h : w.ownsRow B e s v n xs) (hk : w.heap[k]? = some (.cells cs t z)) (hne : t ≠ e) : v.ownBlock ≠ some k := fun e1 => by
  obtain ⟨cur, hc⟩ := own_typ h e1
  rw [hk] at hc
  simp at hc
  exact hne hc.2.1
structure Rws (w : World) (B : Nat) (v : Value) (ss : List Value) (S : List (List Pc)) : Prop where
  len : ss.length = S.length
  own : w.ownsRow B 39 1 v S.length ss
  parts : ∀ i, i < S.length → w.ownsRow B 54 2 (ss.getD i undef) (S.getD i []).length (flatK .i32 (S.getD i []))
section
variable {w w' w1 w8 : World} {B B' : Nat} {v v' u : Value} {ss ss2 : List Value} {S S2 : List (List Pc)} {s : List Pc}
theorem Rws.moved (h : Rws w B v ss S) (hb : Below w.heap.size w w') : Rws w' B v ss S := ⟨h.len, owns_below h.own hb, fun i hi => owns_below (h.parts i hi) hb⟩
theorem Rws.base (h : Rws w B v ss S) (hb : B' ≤ B) : Rws w B' v ss S := ⟨h.len, owns_base h.own hb, fun i hi => owns_base (h.parts i hi) hb⟩
theorem Rws.nil (w : World) (B : Nat) : Rws w B (.slice none 0 0) [] [] := ⟨rfl, World.ownsRow_nil _ _ _ _, fun i hi => absurd hi (Nat.not_lt_zero _)⟩
theorem Rws.ag {X : Nat → Prop} (h : Rws w B v ss S) (k : Ag X w w') (hX : ∀ (i : Nat) (cs : Array Value) (t : TypeId) (z : Nat × Nat), w.heap[i]? = some (.cells cs t z) → t = 39 ∨ t = 54 → X i) : Rws w' B v ss S :=
  ⟨h.len, owns_ag h.own k (fun j hj => by obtain ⟨cur, hc⟩ := own_typ h.own hj; exact hX j _ _ _ hc (.inl rfl)), fun i hi => owns_ag (h.parts i hi) k (fun j hj => by obtain ⟨cur, hc⟩ := own_typ (h.parts i hi) hj; exact hX j _ _ _ hc (.inr rfl))⟩
theorem Rws.set (h : Rws w B v ss S) {p : Addr} {cs : Array Value} {t : TypeId} {z : Nat × Nat} (hp : w.heap[p.block]? = some (.cells cs t z)) (h1 : t ≠ 39) (h2 : t ≠ 54) (x : Value) : Rws (w.setCell p x) B v ss S :=
  ⟨h.len, ownsRow_setCell_other h.own (own_apart h.own hp h1) _, fun i hi => ownsRow_setCell_other (h.parts i hi) (own_apart (h.parts i hi) hp h2) _⟩
theorem Rws.append (h : Rws w B v ss S) (hl2 : ss2.length = S2.length) (hp2 : ∀ i, i < S2.length → w.ownsRow B 54 2 (ss2.getD i undef) (S2.getD i []).length (flatK .i32 (S2.getD i [])))
    (hown : w8.ownsRow B 39 1 v' (S.length + S2.length) (ss ++ ss2)) (hg : w.grownBy w8 v.ownBlock) : Rws w8 B v' (ss ++ ss2) (S ++ S2) := by
  have keep : ∀ {n : Nat} {x : Value} {xs : List Value}, w.ownsRow B 54 2 x n xs → w8.ownsRow B 54 2 x n xs := by
    intro n x xs hx
    refine hx.kept hg ?_
    rcases hx.2 with ⟨h0, _⟩ | ⟨g, cap, cur, hv, hb, hgg, _⟩
    · exact .inl (by rw [h0]; rfl)
    · refine .inr fun e => own_apart h.own hgg (by decide) ?_
      rw [← e, hv]; rfl
  refine ⟨by simp [h.len, hl2], by rw [List.length_append]; exact hown, fun i hi => ?_⟩
  rw [List.length_append] at hi
  rw [List.getD_eq_getElem?_getD, List.getD_eq_getElem?_getD]
  by_cases hlt : i < S.length
  · rw [List.getElem?_append_left (by rw [h.len]; exact hlt), List.getElem?_append_left hlt, ← List.getD_eq_getElem?_getD, ← List.getD_eq_getElem?_getD]
    exact keep (h.parts i hlt)
  · rw [List.getElem?_append_right (by rw [h.len]; omega), List.getElem?_append_right (by omega), h.len, ← List.getD_eq_getElem?_getD, ← List.getD_eq_getElem?_getD]
    exact keep (hp2 _ (by omega))
end
structure SAt (w0 w : World) (ql qv : Nat) (v : Value) (ss : List Value) (S : List (List Pc)) : Prop where
  bel : Below w0.heap.size w0 w
  cl : w.heap[ql]? = some (.cells #[v] 46 (0, 0))
  cv : w.heap[qv]? = some (.cells #[SFn ql qv] 86 (0, 0))
  low : w0.heap.size ≤ ql ∧ w0.heap.size ≤ qv
  rws : Rws w w0.heap.size v ss S
section
variable {w0 w w' w1 w8 : World} {ql qv : Nat} {v v' u : Value} {ss : List Value} {S : List (List Pc)} {s : List Pc}
theorem SAt.moved (h : SAt w0 w ql qv v ss S) (hb : Below w.heap.size w w') : SAt w0 w' ql qv v ss S :=
  ⟨h.bel.trans (hb.mono h.bel.size), bel_get hb h.cl, bel_get hb h.cv, h.low, h.rws.moved hb⟩
theorem SAt.push (h : SAt w0 w ql qv v ss S) (hX : Below w.heap.size w w1) (hu : w1.ownsRow w0.heap.size 54 2 u s.length (flatK .i32 s))
    (hown : w8.ownsRow w0.heap.size 39 1 v' (S.length + 1) (ss ++ [u])) (hg : w1.grownBy w8 v.ownBlock) :
    SAt w0 (w8.setCell ⟨ql, 0, none⟩ v') ql qv v' (ss ++ [u]) (S ++ [s]) ∧ Kt w (w8.setCell ⟨ql, 0, none⟩ v') := by
  have h1 := h.moved hX
  have nl : v.ownBlock ≠ some ql := own_apart h1.rws.own h1.cl (by decide)
  have nv : v.ownBlock ≠ some qv := own_apart h1.rws.own h1.cv (by decide)
  have cl8 : w8.heap[ql]? = some (.cells #[v] 46 (0, 0)) := (hg.block ql (hp_lt h1.cl) (fun e => nl e.symm)).trans h1.cl
  have cv8 : w8.heap[qv]? = some (.cells #[SFn ql qv] 86 (0, 0)) := (hg.block qv (hp_lt h1.cv) (fun e => nv e.symm)).trans h1.cv
  have nlv : qv ≠ ql := fun e => by
    subst e
    have := h1.cl.symm.trans h1.cv
    simp at this
  refine ⟨⟨?_, cell1_set cl8 _, by rw [Below.heap_setCell _ _ _ _ nlv]; exact cv8, h.low, ?_⟩, fun k cs t z hk t1 t2 => ?_⟩
  · refine Below.setCell ?_ (p := ⟨ql, 0, none⟩) h.low.1 _
    exact h1.bel.grown hg h1.bel.size (fun k hk => (h1.rws.own.lt k hk).1)
  · refine (h1.rws.append (ss2 := [u]) (S2 := [s]) rfl (fun i hi => ?_) hown hg).set (p := ⟨ql, 0, none⟩) cl8 (by decide) (by decide) _
    obtain rfl : i = 0 := by simp at hi; exact hi
    exact hu
  · have hk1 := bel_get hX hk
    have n1 : v.ownBlock ≠ some k := own_apart h1.rws.own hk1 t2
    have n2 : k ≠ ql := fun e => by
      subst e
      have := h1.cl
      rw [hk1] at this
      simp at this
      exact t1 this.2.1
    rw [Below.heap_setCell _ _ _ _ n2, hg.block k (hp_lt hk1) (fun e => n1 e.symm)]
    exact hk1
end
theorem infoRow : ∃ i, Tryz.prog.info? 39 = some i ∧ i.zero = some (.slice none 0 0) ∧ i.size = 1 ∧ i.bytes = 24 := info_parts (by kernel_rfl)
def SPost (w0 : World) (ql qv : Nat) (S : List (List Pc)) (w : World) (x : Ending) (w' : World) : Prop := (∃ y, x = .returned y) ∧ (∃ v' ss', SAt w0 w' ql qv v' ss' S) ∧ Kt w w'

set_option maxRecDepth 100000 in
set_option maxHeartbeats 4000000 in
theorem sets_leaf (w0 : World) (ql qv : Nat) (s : List Pc) (sv lv : Value) (hre : ReIs w0 (.mk 2 s []) sv lv) (hs : s.length ≤ 1000) (w : World) (v : Value) (ss : List Value) (S : List (List Pc)) (h : SAt w0 w ql qv v ss S) (hS : S.length ≤ 100000) :
    Calls Tryz.prog 54 #[.agg #[.int .i64 2, sv, lv], .pointer (some ⟨ql, 0, none⟩), .pointer (some ⟨qv, 0, none⟩)] w (SPost w0 ql qv (S ++ [s]) w) := by
  obtain ⟨ii, hi0, hi1, hi2, hi3⟩ := infoRow
  obtain ⟨⟨o1, q1, e1⟩, ⟨o2, q2, e2⟩⟩ := hre.form
  have hrow := hre.set
  dsimp only [RE.set, RE.parts, List.length_nil] at e1 e2 hrow
  subst e1 e2
  obtain ⟨ov, cv, rfl⟩ := nf_slice h.rws.own
  obtain ⟨W, hW⟩ : ∃ W, W = w.alloc (.cells #[.int .i64 2, .slice o1 s.length q1, .slice o2 0 q2] 41) := ⟨_, rfl⟩
  have hbW : Below w.heap.size w W := by rw [hW]; exact bel_new (Below.refl _ _) _
  have hA := h.moved hbW
  have hE : W.heap[w.heap.size]? = some (.cells #[.int .i64 2, .slice o1 s.length q1, .slice o2 0 q2] 41 (0, 0)) := by rw [hW]; exact heap_alloc_new w _
  have hcl := fun X (hb : Below W.heap.size W X) => cloneR_any s _ X (hrow.below (hA.bel.trans (hb.mono hA.bel.size))) (by omega)
  obtain ⟨c0, f0⟩ := cell1_of hA.cl
  have hql := hp_lt hA.cl
  have hB := hA.bel.size
  have hown := hA.rws.own
  have hno : (Value.slice ov S.length cv).ownBlock ≠ some ql := own_apart hA.rws.own hA.cl (by decide)
  obtain ⟨e0, e1, e2⟩ : W.cell? ⟨w.heap.size, 0, none⟩ = some (.int .i64 2) ∧ W.cell? ⟨w.heap.size, 1, none⟩ = some (.slice o1 s.length q1) ∧ W.cell? ⟨w.heap.size, 2, none⟩ = some (.slice o2 0 q2) := by simp [World.cell?, hE]
  have HC := Lib.hid hcl
  have HA := Lib.hid hA
  have HW := Lib.hid hW
  have HE := Lib.hid hE
  clear hcl hA h hrow hre hE
  go_enter Tryz.func54, Tryz.ntmps54
  rw [hW] at e0 e1 e2
  go_upto_region 2 with (fail)
  rw [← hW] at e0 e1 e2 ⊢
  clear hW
  go_region_law
    (first
     | (go_simp; go_at_call 47; refine (HC.out _ (by repeat (first | exact Below.refl _ _ | refine Below.drew ?_))).mono ?_; rintro x w3 ⟨u, rfl, hu3, hb3⟩
        have hB3 : Below W.heap.size W w3 := bel_then (by repeat (first | exact Below.refl _ _ | refine Below.drew ?_)) hb3
        obtain ⟨o3, c3, rfl⟩ : ∃ o c, u = .slice o s.length c := by obtain ⟨o, c, e, _⟩ := Row.owned hu3; exact ⟨o, c, e⟩
        have q0 : w3.cell? ⟨ql, 0, none⟩ = some (.slice ov S.length cv) := (hB3.cell (p := ⟨ql, 0, none⟩) hql).trans c0
        have q9 : ql < w3.heap.size := Nat.lt_of_lt_of_le hql hB3.size
        have q8 : ¬ ql = w3.heap.size := by omega)
     | (refine step_append_far _ rfl _ _ 46 rfl w0.heap.size 39 ii (.slice none 0 0) 1 24 Tryz.underlying46 hi0 hi1 hi2 hi3 rfl (by decide) (.slice ov S.length cv) S.length ss rfl (by repeat (first | exact owns_below hown hB3 | refine World.ownsRow.alloc ?_ _ | refine World.ownsRow.drew ?_)) _ 1 [.slice o3 s.length c3] rfl (by first | exact afrow_new rfl (by simp) | exact nf_rowdrew (afrow_new rfl (by simp))) rfl (by simp [Value.oneCell']) (by unfold maxLen; omega) (by omega) (by have := hB3.size; simp; omega) ?_; intro v8 w8 hown8 hg8 hf8 hb8; obtain ⟨o9, c9, rfl⟩ := nf_slice hown8
        have cl8 : w8.heap[ql]? = some (.cells #[.slice ov S.length cv] 46 (0, 0)) := (hg8.block ql (by have := hB3.size; simp; omega) (fun e => hno e.symm)).trans ((Below.heap_alloc _ _ _ (by have := hB3.size; omega)).trans (bel_get hB3 HA.out.cl))
        obtain ⟨d8, f8⟩ := cell1_of cl8))
  all_goals (
    obtain ⟨w9, hw9⟩ : ∃ w9, w9 = w8.setCell ⟨ql, 0, none⟩ (.slice o9 (S.length + 1) c9) := ⟨_, rfl⟩
    rw [← hw9]
    have hX : Below W.heap.size W (w3.alloc (.cells #[.slice o3 s.length c3] 39)) := bel_new hB3 _
    have hp := HA.out.push (w1 := w3.alloc (.cells #[.slice o3 s.length c3] 39)) (s := s) (u := .slice o3 s.length c3) hX (owns_below (owns_base hu3 (by simp; omega)) (bel_new (Below.refl _ _) _)) hown8 ⟨hg8.os, hg8.tape, hg8.output, hg8.size, hg8.block⟩
    rw [← hw9] at hp
    have hE9 := hp.2 _ _ _ _ HE.out (by decide) (by decide)
    have g0 : w9.cell? ⟨w.heap.size, 2, none⟩ = some (.slice o2 0 q2) := by simp [World.cell?, hE9]
    have HP := Lib.hid (And.intro hp.1 ((Kt.of (w' := W) (by rw [HW.out]; exact bel_new (Below.refl _ _) _)).trans hp.2))
    clear hp hX hown8 hg8 hf8 hb8 d8 f8 cl8 hw9 q0 hE9
    go_wp2_with fail
    go_loopg [18] 0 (fun g s18 wx => s18 = .int .i64 0 ∧ wx = w9)
    case atStart => exact ⟨rfl, rfl⟩
    case round =>
      obtain ⟨rfl, rfl⟩ := hrel
      go_wp2_with fail
      go_end0
      exact ⟨⟨_, rfl⟩, ⟨_, _, HP.out.1⟩, HP.out.2⟩)

def SIh (w0 : World) (N ql qv : Nat) : Prop := ∀ (e : RE) (sv lv : Value), e.size ≤ N → e.prt = true → ReIs w0 e sv lv → ∀ (w : World) (v : Value) (ss : List Value) (S : List (List Pc)), SAt w0 w ql qv v ss S → S.length + (Nf.sts e).length ≤ 100000 →
  Calls Tryz.prog 54 #[.agg #[.int .i64 e.kind, sv, lv], .pointer (some ⟨ql, 0, none⟩), .pointer (some ⟨qv, 0, none⟩)] w (SPost w0 ql qv (S ++ Nf.sts e) w)
theorem stsL_take_len (l : List RE) (k : Nat) : (Nf.stsL (l.take k)).length ≤ (Nf.stsL l).length := by
  have hA : ∀ (a b : List RE), (Nf.stsL (a ++ b)).length = (Nf.stsL a).length + (Nf.stsL b).length := by
    intro a b
    induction a with
    | nil => rw [Nf.stsL_nil]; simp
    | cons x a ih => rw [List.cons_append, Nf.stsL_cons, Nf.stsL_cons, List.length_append, List.length_append, ih]; omega
  have := hA (l.take k) (l.drop k)
  rw [List.take_append_drop] at this
  omega
set_option maxRecDepth 100000 in
set_option maxHeartbeats 4000000 in
theorem sets_node (w0 : World) (N ql qv : Nat) (ih : SIh w0 N ql qv) (k : Int) (s : List Pc) (l : List RE) (sv lv : Value) (k2 : k ≠ 2) (hre : ReIs w0 (.mk k s l) sv lv) (hsz : (RE.mk k s l).size ≤ N + 1) (hpl : ∀ e ∈ l, e.prt = true) (hll : l.length ≤ 100000)
    (w : World) (v : Value) (ss : List Value) (S : List (List Pc)) (h : SAt w0 w ql qv v ss S) (hS : S.length + (Nf.stsL l).length ≤ 100000) :
    Calls Tryz.prog 54 #[.agg #[.int .i64 k, sv, lv], .pointer (some ⟨ql, 0, none⟩), .pointer (some ⟨qv, 0, none⟩)] w (SPost w0 ql qv (S ++ Nf.stsL l) w) := by
  obtain ⟨⟨o1, q1, e1⟩, -⟩ := hre.form
  obtain ⟨o2, q2, c1, c2, e2, hall⟩ := hre.all
  dsimp only [RE.set, RE.parts] at e1 e2 hall
  subst e1 e2
  obtain ⟨W, hW⟩ : ∃ W, W = w.alloc (.cells #[.int .i64 k, .slice o1 s.length q1, .slice o2 l.length q2] 41) := ⟨_, rfl⟩
  have hbW : Below w.heap.size w W := by rw [hW]; exact bel_new (Below.refl _ _) _
  have hA := h.moved hbW
  have hE : W.heap[w.heap.size]? = some (.cells #[.int .i64 k, .slice o1 s.length q1, .slice o2 l.length q2] 41 (0, 0)) := by rw [hW]; exact heap_alloc_new w _
  obtain ⟨e0, e1, e2⟩ : W.cell? ⟨w.heap.size, 0, none⟩ = some (.int .i64 k) ∧ W.cell? ⟨w.heap.size, 1, none⟩ = some (.slice o1 s.length q1) ∧ W.cell? ⟨w.heap.size, 2, none⟩ = some (.slice o2 l.length q2) := by simp [World.cell?, hE]
  have HA := Lib.hid (show ∃ v' ss', SAt w0 W ql qv v' ss' (S ++ Nf.stsL (l.take 0)) from ⟨v, ss, by rw [List.take_zero, Nf.stsL_nil, List.append_nil]; exact hA⟩)
  have HK := Lib.hid (Kt.of hbW)
  have HALL := Lib.hid hall
  have kd : (k == 2) = false := by simp [k2]
  have hszl : RE.sizes l ≤ N := by rw [RE.size_mk] at hsz; omega
  clear hA h hre hE hall hbW
  rw [hW] at e0 e1 e2
  go_enter Tryz.func54, Tryz.ntmps54
  go_wp2_with fail
  rw [← hW] at e0 e1 e2 ⊢
  clear hW
  go_loopg [18] l.length (fun g s18 wx => ∃ j, j + g = l.length ∧ s18 = .int .i64 (j : Int) ∧ (∃ v' ss', SAt w0 wx ql qv v' ss' (S ++ Nf.stsL (l.take j))) ∧ Kt w wx)
  case atStart => exact ⟨0, by omega, rfl, HA.out, HK.out⟩
  case round =>
    obtain ⟨j, hj, rfl, ⟨v', ss', hx⟩, hk⟩ := hrel
    have HX := Lib.hid hx
    have HKT := Lib.hid hk
    by_cases hlt : j < l.length
    · obtain ⟨g1, hg1⟩ : ∃ g1, g1 + 1 = gk := ⟨gk - 1, by omega⟩
      obtain ⟨p, hp⟩ : ∃ p, l[j]? = some p := ⟨l[j], List.getElem?_eq_getElem hlt⟩
      obtain ⟨hrp, b, off, rfl, hbl, k0, k1, k3⟩ := HALL.out j p hp
      rw [← hx.bel.cell hbl] at k0
      rw [← hx.bel.cell hbl] at k1
      rw [← hx.bel.cell hbl] at k3
      obtain ⟨s1, hs1⟩ : ∃ s1, s1 = c1 j := ⟨_, rfl⟩
      obtain ⟨s2, hs2⟩ : ∃ s2, s2 = c2 j := ⟨_, rfl⟩
      rw [← hs1, ← hs2] at hrp
      rw [← hs1] at k1
      rw [← hs2] at k3
      obtain ⟨⟨oo1, qq1, rfl⟩, ⟨oo2, qq2, rfl⟩⟩ := hrp.form
      obtain ⟨X, hX⟩ : ∃ X, X = wr.alloc (.cells #[.int .i64 p.kind, .slice oo1 p.set.length qq1, .slice oo2 p.parts.length qq2] 41) := ⟨_, rfl⟩
      have hbX : Below wr.heap.size wr X := by rw [hX]; exact bel_new (Below.refl _ _) _
      have hEX : X.heap[wr.heap.size]? = some (.cells #[.int .i64 p.kind, .slice oo1 p.set.length qq1, .slice oo2 p.parts.length qq2] 41 (0, 0)) := by rw [hX]; exact heap_alloc_new wr _
      have hxX := hx.moved hbX
      obtain ⟨cv0, fv0⟩ := cell1_of hxX.cv
      unfold SFn at cv0
      have hnext : Nf.stsL (l.take (j + 1)) = Nf.stsL (l.take j) ++ Nf.sts p := Nf.stsL_next l j p hp
      have hlen := stsL_take_len l (j + 1)
      rw [hnext, List.length_append] at hlen
      have hc := ih p _ _ (by have := RE.size_get l j p hp; omega) (hpl p (List.mem_of_getElem? hp)) hrp X _ _ _ hxX (by rw [List.length_append]; omega)
      rw [List.append_assoc, ← hnext] at hc
      obtain ⟨x0, x1, x2⟩ : X.cell? ⟨wr.heap.size, 0, none⟩ = some (.int .i64 p.kind) ∧ X.cell? ⟨wr.heap.size, 1, none⟩ = some (.slice oo1 p.set.length qq1) ∧ X.cell? ⟨wr.heap.size, 2, none⟩ = some (.slice oo2 p.parts.length qq2) := by simp [World.cell?, hEX]
      have HC := Lib.hid hc
      have HKX := Lib.hid (hk.trans (Kt.of hbX))
      clear hc hx hk hxX hEX hbX hrp hs1 hs2 hnext hlen
      rw [hX] at cv0 fv0 x0 x1 x2
      go_wp2_with (first | (rw [← hX]; refine HC.out.mono ?_; rintro e w3 ⟨⟨y, rfl⟩, h3, hk3⟩))
      go_roundg g1
      case measure => omega
      case rel => exact ⟨j + 1, by omega, by simp, h3, HKX.out.trans hk3⟩
    · obtain rfl : j = l.length := by omega
      clear hx hk
      go_wp2_with fail
      go_end0
      have := HX.out
      rw [List.take_length] at this
      exact ⟨⟨_, rfl⟩, ⟨_, _, this⟩, HKT.out⟩
theorem sets_all (w0 : World) (ql qv : Nat) : ∀ N, SIh w0 N ql qv := by
  intro N
  induction N with
  | zero => intro e sv lv h; have := e.size_pos; omega
  | succ N ih =>
    intro e sv lv hsz hp hre w v ss S h hS
    cases e with
    | mk k s l =>
      show Calls Tryz.prog _ #[.agg #[.int .i64 k, sv, lv], _, _] w _
      rw [Nf.sts_mk] at hS ⊢
      by_cases k2 : k = 2
      · subst k2
        rcases Nf.prt_cases hp with ⟨h0, _⟩ | ⟨h0, _⟩ | ⟨_, rfl, _, hs20⟩ | ⟨h0, _⟩ | ⟨h0, _⟩
        · omega
        · omega
        · rw [if_pos rfl, Nf.stsL_nil] at hS ⊢
          exact sets_leaf w0 ql qv s sv lv hre (by omega) w v ss S h (by omega)
        · omega
        · omega
      · rw [if_neg k2] at hS ⊢
        refine sets_node w0 N ql qv ih k s l sv lv k2 hre hsz ?_ ?_ w v ss S h hS
        · intro e he
          rcases Nf.prt_cases hp with ⟨_, rfl⟩ | ⟨_, rfl⟩ | ⟨h0, _⟩ | ⟨_, a, rfl, ha⟩ | ⟨_, a, b, rfl, ha, hb⟩
          · simp at he
          · simp at he
          · omega
          · simp at he; subst he; exact ha
          · simp at he; rcases he with rfl | rfl
            · exact ha
            · exact hb
        · rcases Nf.prt_cases hp with ⟨_, rfl⟩ | ⟨_, rfl⟩ | ⟨h0, _⟩ | ⟨_, a, rfl, ha⟩ | ⟨_, a, b, rfl, ha, hb⟩ <;> first | omega | simp
set_option maxRecDepth 100000 in
set_option maxHeartbeats 2000000 in
theorem reSets_any (e : RE) (sv lv : Value) (w : World) (h : ReIs w e sv lv) (hf : e.Fit) (hm : e.may = true) :
    Calls Tryz.prog 27 #[.agg #[.int .i64 e.kind, sv, lv]] w fun x w' => ∃ v ss, x = .returned v ∧ Rws w' w.heap.size v ss (Nf.sts e) ∧ Below w.heap.size w w' := by
  have hmi := (RE.may_iff e).1 hm
  have hsl := Nf.sts_size e.size e (Nat.le_refl _) hmi.2.2
  have hmay := fun W (hb : Below w.heap.size w W) => reMay_any e _ _ W (h.moved hb) hf
  rw [hm] at hmay
  have hs := fun (X : World) (ql qv : Nat) (hA : SAt w X ql qv (.slice none 0 0) [] []) => sets_all w ql qv e.size e sv lv (Nat.le_refl _) hmi.2.2 h X _ _ _ hA (by simp; omega)
  obtain ⟨⟨o1, q1, rfl⟩, ⟨o2, q2, rfl⟩⟩ := h.form
  have HM := Lib.hid hmay
  have HS := Lib.hid hs
  have hmf : ∀ (fn : Fn) (first cap : Array Value) (w : World), (Instr.makeFunc fn first cap).run Tryz.prog w = .ok (.func fn first cap) w := fun _ _ _ _ => rfl
  clear hmay hs h hf hm
  go_enter Tryz.func27, Tryz.ntmps27
  go_wp2_with (first
    | (go_at_call 25; refine (HM.out _ (bel_new (Below.refl _ _) _)).mono ?_; rintro x w2 ⟨rfl, hb2⟩
       have hE2 := bel_get hb2 (heap_alloc_new w _)
       obtain ⟨y0, y1, y2⟩ : w2.cell? ⟨w.heap.size, 0, none⟩ = some (.int .i64 e.kind) ∧ w2.cell? ⟨w.heap.size, 1, none⟩ = some (.slice o1 e.set.length q1) ∧ w2.cell? ⟨w.heap.size, 2, none⟩ = some (.slice o2 e.parts.length q2) := by simp [World.cell?, hE2]
       have hlt := hp_lt hE2
       have hn0 : ¬ w.heap.size = w2.heap.size := by omega
       have hn1 : ¬ w.heap.size = w2.heap.size + 1 := by omega
       have hbw : Below w.heap.size w w2 := bel_then (bel_new (Below.refl _ _) _) hb2
       have HB := Lib.hid hbw
       clear hE2 hb2 hbw)
    | fail)
  obtain ⟨X, hX⟩ : ∃ X, X = (w2.alloc (.cells #[.slice none 0 0] 46)).alloc (.cells #[SFn w2.heap.size (w2.heap.size + 1)] 86) := ⟨_, rfl⟩
  have hbX : Below w2.heap.size w2 X := by rw [hX]; exact bel_new (bel_new (Below.refl _ _) _) _
  have hA : SAt w X w2.heap.size (w2.heap.size + 1) (.slice none 0 0) [] [] := by
    refine ⟨bel_then HB.out hbX, ?_, ?_, by omega, Rws.nil _ _⟩
    · rw [hX, Below.heap_alloc _ _ _ (by simp)]; exact heap_alloc_new w2 _
    · rw [hX]
      have := heap_alloc_new (w2.alloc (.cells #[.slice none 0 0] 46)) (.cells #[SFn w2.heap.size (w2.heap.size + 1)] 86)
      rwa [World.size_alloc] at this
  refine (HS.out _ _ _ (by unfold SFn at hX; first | exact hX ▸ hA | (rw [← hX]; exact hA))).mono ?_
  rintro x w3 ⟨⟨y, rfl⟩, ⟨v', ss', h3⟩, -⟩
  obtain ⟨d0, -⟩ := cell1_of h3.cl
  have H3 := Lib.hid h3
  clear h3
  go_wp2_with fail
  go_ret
  exact ⟨_, _, rfl, by have := H3.out.rws; rwa [List.nil_append] at this, H3.out.bel⟩
end Go.Proofs.YtmgfpcblbbpahaaGreat
