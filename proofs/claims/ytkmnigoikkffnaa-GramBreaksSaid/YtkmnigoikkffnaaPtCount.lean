/- gram.Count. -/
import Derived.Test.YtkmnigoikkffnaaPtFits
set_option linter.unusedVariables false
set_option linter.unusedSimpArgs false
namespace Go.Proofs.Ytkmnigoikkffnaa
open Go.RowKit Ru
namespace PT
mutual
/-- nodes and depth: so many were counted, so deep it was -/
def cnt : PT → Nat → Nat → Nat → Nat × Nat
  | .mk _ _ _ l, deep, n, d => cntL l (deep + 1) (n + 1) (max d deep)
def cntL : List PT → Nat → Nat → Nat → Nat × Nat
  | [], _, n, d => (n, d)
  | e :: l, deep, n, d => cntL l deep (cnt e deep n d).1 (cnt e deep n d).2
end
theorem cnt_eq (e : PT) (deep n d : Nat) : cnt e deep n d = cntL e.parts (deep + 1) (n + 1) (max d deep) := by cases e; rw [cnt]; rfl
theorem cntL_nil (deep n d : Nat) : cntL [] deep n d = (n, d) := by rw [cntL]
theorem cntL_cons (e : PT) (l : List PT) (deep n d : Nat) : cntL (e :: l) deep n d = cntL l deep (cnt e deep n d).1 (cnt e deep n d).2 := by rw [cntL]
theorem cnt_le : ∀ (N : Nat) (e : PT), e.size ≤ N → ∀ deep n d, (cnt e deep n d).1 = n + e.size ∧ (cnt e deep n d).2 ≤ max d (deep + e.size) := by
  intro N
  induction N with
  | zero => intro e h; have := e.size_pos; omega
  | succ N ih =>
    intro e hs deep n d
    rw [cnt_eq]
    have all : ∀ (l : List PT) (n d : Nat), sizes l ≤ N → (cntL l (deep + 1) n d).1 = n + sizes l ∧ (cntL l (deep + 1) n d).2 ≤ max d (deep + 1 + sizes l) := by
      intro l
      induction l with
      | nil => intro n d _; rw [cntL_nil, sizes_nil]; simp; omega
      | cons a l ihl =>
        intro n d hl
        rw [sizes_cons] at hl
        rw [cntL_cons, sizes_cons]
        have h1 := ih a (by omega) (deep + 1) n d
        have h2 := ihl (cnt a (deep + 1) n d).1 (cnt a (deep + 1) n d).2 (by omega)
        refine ⟨by rw [h2.1, h1.1]; omega, Nat.le_trans h2.2 ?_⟩
        omega
    have hz : e.size = sizes e.parts + 1 := by cases e; rw [size_mk]; rfl
    have := all e.parts (n + 1) (max d deep) (by omega)
    refine ⟨by rw [this.1]; omega, Nat.le_trans this.2 ?_⟩
    omega
theorem size_sizes (e : PT) : e.size = sizes e.parts + 1 := by cases e; rw [size_mk]; rfl
end PT
/-- as it was, but for what is new, and two blocks -/
structure Ch2 (w w' : World) (p q : Nat) : Prop where
  os : w'.os = w.os
  tape : w'.tape = w.tape
  output : w'.output = w.output
  size : w.heap.size ≤ w'.heap.size
  block : ∀ k, k < w.heap.size → k ≠ p → k ≠ q → w'.heap[k]? = w.heap[k]?
theorem Ch2.refl (w : World) (p q : Nat) : Ch2 w w p q := ⟨rfl, rfl, rfl, Nat.le_refl _, fun _ _ _ _ => rfl⟩
theorem Ch2.trans {a b c : World} {p q : Nat} (h : Ch2 a b p q) (k : Ch2 b c p q) : Ch2 a c p q :=
  ⟨k.os.trans h.os, k.tape.trans h.tape, k.output.trans h.output, Nat.le_trans h.size k.size, fun j hj hp hq => by have := h.size; rw [k.block j (by omega) hp hq, h.block j hj hp hq]⟩
theorem Ch2.of {w w' : World} {p q : Nat} (h : Below w.heap.size w w') : Ch2 w w' p q := ⟨h.os, h.tape, h.output, h.size, fun k hk _ _ => h.block k hk⟩
theorem Ch2.setP (w : World) (p q i : Nat) (x : Value) : Ch2 w (w.setCell ⟨p, i, none⟩ x) p q := ⟨rfl, rfl, rfl, by simp [World.setCell], fun k _ hp _ => Below.heap_setCell _ _ _ _ hp⟩
theorem Ch2.setQ (w : World) (p q i : Nat) (x : Value) : Ch2 w (w.setCell ⟨q, i, none⟩ x) p q := ⟨rfl, rfl, rfl, by simp [World.setCell], fun k _ _ hq => Below.heap_setCell _ _ _ _ hq⟩
theorem Ch2.get {w w' : World} {p q k : Nat} {o : Obj} (h : Ch2 w w' p q) (hk : w.heap[k]? = some o) (h1 : k ≠ p) (h2 : k ≠ q) : w'.heap[k]? = some o := by rw [h.block k (hp_lt hk) h1 h2]; exact hk
theorem Ch2.after {w0 w w' : World} {p q : Nat} (h : Below w0.heap.size w0 w) (k : Ch2 w w' p q) (hp : w0.heap.size ≤ p) (hq : w0.heap.size ≤ q) : Below w0.heap.size w0 w' :=
  h.trans ⟨k.os, k.tape, k.output, k.size, fun j hj => k.block j (by have := h.size; omega) (by omega) (by omega)⟩
abbrev CFn (qn qd qv : Nat) : Value := .func (Fn.func 51) #[] #[.pointer (some ⟨qn, 0, none⟩), .pointer (some ⟨qd, 0, none⟩), .pointer (some ⟨qv, 0, none⟩)]
structure CAt (w0 w : World) (qn qd qv n d : Nat) : Prop where
  bel : Below w0.heap.size w0 w
  cn : w.heap[qn]? = some (.cells #[.int .i64 n] 3 (0, 0))
  cd : w.heap[qd]? = some (.cells #[.int .i64 d] 3 (0, 0))
  cv : w.heap[qv]? = some (.cells #[CFn qn qd qv] 86 (0, 0))
  ln : w0.heap.size ≤ qn
  ld : w0.heap.size ≤ qd
  lv : w0.heap.size ≤ qv
  n1 : qn ≠ qd
  n2 : qn ≠ qv
  n3 : qd ≠ qv
theorem CAt.go {w0 w w' : World} {qn qd qv n d m k : Nat} (h : CAt w0 w qn qd qv n d) (hc : Ch2 w w' qn qd) (hn : w'.heap[qn]? = some (.cells #[.int .i64 m] 3 (0, 0))) (hd : w'.heap[qd]? = some (.cells #[.int .i64 k] 3 (0, 0))) : CAt w0 w' qn qd qv m k :=
  ⟨hc.after h.bel h.ln h.ld, hn, hd, hc.get h.cv (fun e => h.n2 e.symm) (fun e => h.n3 e.symm), h.ln, h.ld, h.lv, h.n1, h.n2, h.n3⟩
theorem CAt.moved {w0 w w' : World} {qn qd qv n d : Nat} (h : CAt w0 w qn qd qv n d) (hb : Below w.heap.size w w') : CAt w0 w' qn qd qv n d := h.go (Ch2.of hb) (bel_get hb h.cn) (bel_get hb h.cd)
def CIh (w0 : World) (N qn qd qv : Nat) : Prop := ∀ (e : PT) (nv ev lv : Value) (n d deep : Nat) (w : World), e.size ≤ N → e.Fit → PtIs w0 e nv ev lv → CAt w0 w qn qd qv n d → n + e.size ≤ 1000000 → deep + e.size ≤ 1000000 → d ≤ 1000000 →
  Calls Try.prog 51 #[.agg #[.int .i64 e.kind, nv, ev, lv], .int .i64 deep, .pointer (some ⟨qn, 0, none⟩), .pointer (some ⟨qd, 0, none⟩), .pointer (some ⟨qv, 0, none⟩)] w fun x w' =>
    x = .returned (.tuple #[]) ∧ CAt w0 w' qn qd qv (e.cnt deep n d).1 (e.cnt deep n d).2 ∧ Ch2 w w' qn qd
set_option maxHeartbeats 8000000 in
set_option maxRecDepth 100000 in
theorem cnt_all (w0 : World) (qn qd qv : Nat) : ∀ N, CIh w0 N qn qd qv := by
  intro N
  induction N with
  | zero => intro e nv ev lv n d deep w hs; have := e.size_pos; omega
  | succ N ih =>
    intro e nv ev lv n d deep w hs hf hr hv hn hdp hdb
    obtain ⟨⟨o1, q1, rfl⟩, ⟨o3, q3, rfl⟩, -⟩ := hr.form
    obtain ⟨o2, q2, ka, nao, nan, nac, eao, ean, eac, lao, lan, lac, rfl, hall⟩ := hr.row4
    have hm1 := hf.lens
    have hsz := e.size_sizes
    have hqs := hp_lt hv.cn
    have hqs1 := hp_lt hv.cd
    have hqs2 := hp_lt hv.cv
    obtain ⟨cn0, fn0⟩ := cell1_of hv.cn
    obtain ⟨cd0, fd0⟩ := cell1_of hv.cd
    have hnd := hv.n1
    have hceq := e.cnt_eq deep n d
    obtain ⟨W1, hW1⟩ : ∃ W1, W1 = (w.setCell ⟨qn, 0, none⟩ (.int .i64 ((n + 1 : Nat) : Int))).setCell ⟨qd, 0, none⟩ (.int .i64 ((max d deep : Nat) : Int)) := ⟨_, rfl⟩
    have hsz1 : W1.heap.size = w.heap.size := by rw [hW1]; simp [World.setCell]
    have hc1 : Ch2 w W1 qn qd := by rw [hW1]; exact (Ch2.setP w qn qd 0 _).trans (Ch2.setQ _ qn qd 0 _)
    have hv1 : CAt w0 W1 qn qd qv (n + 1) (max d deep) := by
      refine hv.go hc1 ?_ ?_
      · rw [hW1, Below.heap_setCell _ _ _ _ hnd]; exact cell1_set hv.cn _
      · rw [hW1]; exact cell1_set ((Below.heap_setCell _ _ _ _ (fun e => hnd e.symm)).trans hv.cd) _
    obtain ⟨W2, hW2⟩ : ∃ W2, W2 = W1.alloc (.cells #[.int .i64 e.kind, .slice o1 e.names.length q1, .slice o3 e.ends.length q3, .slice o2 e.parts.length q2] 43) := ⟨_, rfl⟩
    have hb2 : Below W1.heap.size W1 W2 := by rw [hW2]; exact bel_new (Below.refl _ _) _
    have hv2 := hv1.moved hb2
    have hc2 : Ch2 w W2 qn qd := hc1.trans (Ch2.of hb2)
    have hstA : d < deep → ((w.setCell ⟨qn, 0, none⟩ (.int .i64 ((n : Int) + 1))).setCell ⟨qd, 0, none⟩ (.int .i64 (deep : Int))).alloc (.cells #[.int .i64 e.kind, .slice o1 e.names.length q1, .slice o3 e.ends.length q3, .slice o2 e.parts.length q2] 43) = W2 := by
      intro h; rw [hW2, hW1, show max d deep = deep by omega]; rfl
    have hstB : ¬ d < deep → ((w.setCell ⟨qn, 0, none⟩ (.int .i64 ((n : Int) + 1))).setCell ⟨qd, 0, none⟩ (.int .i64 (d : Int))).alloc (.cells #[.int .i64 e.kind, .slice o1 e.names.length q1, .slice o3 e.ends.length q3, .slice o2 e.parts.length q2] 43) = W2 := by
      intro h; rw [hW2, hW1, show max d deep = d by omega]; rfl
    have HST := Lib.hid (And.intro hstA hstB)
    have H2 := Lib.hid (And.intro hv2 hc2)
    have HALL := Lib.hid hall
    have HV := Lib.hid hv
    have HIH := Lib.hid ih
    have HF := Lib.hid hf
    clear hstA hstB hW1 hW2 hc1 hv1 hb2 hv2 hc2 hsz1 hall hr hv ih
    go_enter Try.func51, Try.ntmps51
    go_wp2_with fail
    all_goals (
      first | rw [HST.out.1 (by assumption)] | rw [HST.out.2 (by assumption)]
      go_loopg [17] e.parts.length (fun g s wx => ∃ (k n' d' : Nat), k + g = e.parts.length ∧ s = .int .i64 k ∧ CAt w0 wx qn qd qv n' d' ∧ Ch2 w wx qn qd ∧ PT.cntL (e.parts.drop k) (deep + 1) n' d' = e.cnt deep n d ∧ n' + PT.sizes (e.parts.drop k) ≤ 1000000 ∧ d' ≤ 1000000)
      case atStart => exact ⟨0, n + 1, max d deep, by omega, rfl, H2.out.1, H2.out.2, by rw [List.drop_zero, hceq], by rw [List.drop_zero]; omega, by omega⟩
      case round =>
        obtain ⟨k, n', d', hkg, rfl, hvx, hcx, hcnt, hn', hd'⟩ := hrel
        obtain ⟨wo, rfl⟩ : ∃ wo : World, wo = wr := ⟨_, rfl⟩
        cases gk with
        | zero =>
          obtain rfl : k = e.parts.length := by omega
          have hd : decide ((e.parts.length : Int) < (e.parts.length : Int)) = false := by simp
          rw [List.drop_length, PT.cntL_nil] at hcnt
          have HX := Lib.hid (And.intro hvx (And.intro hcx hcnt))
          clear hvx hcx hcnt
          go_wp2_with fail
          refine bodyPost_end (results_none rfl _ _ _) rfl ?_
          refine ⟨rfl, ?_, HX.out.2.1⟩
          rw [← HX.out.2.2]
          exact HX.out.1
        | succ g =>
          have hk : k < e.parts.length := by omega
          have hd : decide ((k : Int) < (e.parts.length : Int)) = true := by simp; omega
          have hk1 : (0 : Int) ≤ (k : Int) := by omega
          have hk2 : (k : Int) < (e.parts.length : Int) := by omega
          have hk9 : (k : Int) ≤ 1000 := by omega
          obtain ⟨p, hp⟩ : ∃ p, e.parts[k]? = some p := ⟨e.parts[k], List.getElem?_eq_getElem hk⟩
          have hpe : e.parts[k] = p := by rw [List.getElem?_eq_getElem hk] at hp; exact Option.some.inj hp
          obtain ⟨hkk, hrp, b, off, rfl, hbl, k0, k1, k2, k3⟩ := HALL.out k p hp
          rw [hkk] at k0
          rw [← hvx.bel.cell hbl] at k0 k1 k2 k3
          have hpz := PT.size_part hp
          rw [List.drop_eq_getElem_cons hk, hpe, PT.cntL_cons] at hcnt
          rw [List.drop_eq_getElem_cons hk, hpe, PT.sizes_cons] at hn'
          obtain ⟨v1, hv1⟩ : ∃ v, v = nao k := ⟨_, rfl⟩
          obtain ⟨v2, hv2⟩ : ∃ v, v = nan k := ⟨_, rfl⟩
          obtain ⟨v3, hv3⟩ : ∃ v, v = nac k := ⟨_, rfl⟩
          obtain ⟨v4, hv4⟩ : ∃ v, v = eao k := ⟨_, rfl⟩
          obtain ⟨v5, hv5⟩ : ∃ v, v = ean k := ⟨_, rfl⟩
          obtain ⟨v6, hv6⟩ : ∃ v, v = eac k := ⟨_, rfl⟩
          obtain ⟨v7, hv7⟩ : ∃ v, v = lao k := ⟨_, rfl⟩
          obtain ⟨v8, hv8⟩ : ∃ v, v = lan k := ⟨_, rfl⟩
          obtain ⟨v9, hv9⟩ : ∃ v, v = lac k := ⟨_, rfl⟩
          rw [← hv1, ← hv2, ← hv3, ← hv4, ← hv5, ← hv6, ← hv7, ← hv8, ← hv9] at hrp
          rw [← hv1, ← hv2, ← hv3] at k1
          rw [← hv4, ← hv5, ← hv6] at k2
          rw [← hv7, ← hv8, ← hv9] at k3
          have hcall := fun w' (hw : CAt w0 w' qn qd qv n' d') => HIH.out p _ _ _ n' d' (deep + 1) w' (by omega) (HF.out.part hp) hrp hw (by omega) (by omega) hd'
          have HC := Lib.hid hcall
          obtain ⟨g0, f0⟩ := cell1_of hvx.cv
          unfold CFn at g0
          have hlv := hp_lt hvx.cv
          have hw1 : (deep : Int) + 1 = ((deep + 1 : Nat) : Int) := by omega
          have hdz : (deep : Int) ≤ 1000000 := by omega
          have HW := Lib.hid hw1
          have HX := Lib.hid (And.intro hvx (And.intro hcx hcnt))
          have HZ := Lib.hid (PT.cnt_le p.size p (Nat.le_refl _) (deep + 1) n' d')
          clear hcall hrp hvx hcx hcnt hw1 hv1 hv2 hv3 hv4 hv5 hv6 hv7 hv8 hv9 hkk hp hpe
          go_wp2_with fail
          rw [show (Value.int .i64 ((deep : Int) + 1)) = .int .i64 ((deep + 1 : Nat) : Int) by rw [HW.out]]
          refine (HC.out _ (HX.out.1.moved (bel_new (Below.refl _ _) _))).mono ?_
          rintro x w3 ⟨rfl, hv3, hc3⟩
          have H3 := Lib.hid (And.intro hv3 ((HX.out.2.1.trans (Ch2.of (bel_new (Below.refl _ _) _))).trans hc3))
          clear hv3 hc3
          go_wp2
          go_roundg g
          case measure => omega
          case rel =>
            exact ⟨k + 1, _, _, by omega, by go_num, H3.out.1, H3.out.2, HX.out.2.2, by rw [HZ.out.1]; omega, Nat.le_trans HZ.out.2 (by omega)⟩)
set_option maxHeartbeats 4000000 in
set_option maxRecDepth 100000 in
/-- gram.Count -/
theorem gramCount_any (e : PT) (nv ev lv : Value) (w : World) (h : PtIs w e nv ev lv) (hf : e.Fit) (hsz : e.size ≤ 100000) :
    Calls Try.prog 19 #[.agg #[.int .i64 e.kind, nv, ev, lv]] w fun x w' => x = .returned (.tuple #[.int .i64 ((e.cnt 1 0 0).1 : Nat), .int .i64 ((e.cnt 1 0 0).2 : Nat)]) ∧ Below w.heap.size w w' := by
  obtain ⟨⟨o1, q1, rfl⟩, ⟨o3, q3, rfl⟩, ⟨o2, q2, rfl⟩⟩ := h.form
  have hva := fun w' (hv : CAt w w' (w.heap.size + 1) (w.heap.size + 1 + 1) (w.heap.size + 1 + 1 + 1) 0 0) => cnt_all w (w.heap.size + 1) (w.heap.size + 1 + 1) (w.heap.size + 1 + 1 + 1) e.size e _ _ _ 0 0 1 w' (Nat.le_refl _) hf h hv (by omega) (by omega) (by omega)
  obtain ⟨r1, hr1⟩ : ∃ r, r = (e.cnt 1 0 0).1 := ⟨_, rfl⟩
  obtain ⟨r2, hr2⟩ : ∃ r, r = (e.cnt 1 0 0).2 := ⟨_, rfl⟩
  rw [← hr1, ← hr2] at hva ⊢
  clear hr1 hr2
  have HV := Lib.hid hva
  have hmf : ∀ (fn : Fn) (first cap : Array Value) (w : World), (Instr.makeFunc fn first cap).run Try.prog w = .ok (.func fn first cap) w := fun _ _ _ _ => rfl
  clear hva h hf
  go_enter Try.func19, Try.ntmps19
  go_wp2_with fail
  obtain ⟨W0, hW0⟩ : ∃ W0, W0 = (w.alloc (.cells #[.int .i64 e.kind, .slice o1 e.names.length q1, .slice o3 e.ends.length q3, .slice o2 e.parts.length q2] 43)) := ⟨_, rfl⟩
  obtain ⟨W, hW⟩ : ∃ W, W = ((W0.alloc (.cells #[.int .i64 0] 3)).alloc (.cells #[.int .i64 0] 3)).alloc (.cells #[CFn (w.heap.size + 1) (w.heap.size + 1 + 1) (w.heap.size + 1 + 1 + 1)] 86) := ⟨_, rfl⟩
  have hz0 : W0.heap.size = w.heap.size + 1 := by rw [hW0]; simp
  have hb0 : Below w.heap.size w W0 := by rw [hW0]; exact bel_new (Below.refl _ _) _
  have hb : Below w.heap.size w W := by rw [hW]; exact bel_new (bel_new (bel_new hb0 _) _) _
  have hv : CAt w W (w.heap.size + 1) (w.heap.size + 1 + 1) (w.heap.size + 1 + 1 + 1) 0 0 := by
    refine ⟨hb, ?_, ?_, ?_, by omega, by omega, by omega, by omega, by omega, by omega⟩
    · rw [hW, Below.heap_alloc _ _ _ (by simp; omega), Below.heap_alloc _ _ _ (by simp; omega), ← hz0]
      exact heap_alloc_new _ _
    · rw [hW, Below.heap_alloc _ _ _ (by simp; omega)]
      have := heap_alloc_new (W0.alloc (.cells #[.int .i64 0] 3)) (.cells #[.int .i64 0] 3)
      simpa [hz0] using this
    · rw [hW]
      have := heap_alloc_new ((W0.alloc (.cells #[.int .i64 0] 3)).alloc (.cells #[.int .i64 0] 3)) (.cells #[CFn (w.heap.size + 1) (w.heap.size + 1 + 1) (w.heap.size + 1 + 1 + 1)] 86)
      simpa [hz0] using this
  rw [hW0] at hW
  refine (HV.out _ (by unfold CFn at hW; first | exact hW ▸ hv | (rw [← hW]; exact hv))).mono ?_
  rintro x w2 ⟨rfl, hv2, hc2⟩
  obtain ⟨d0, -⟩ := cell1_of hv2.cn
  obtain ⟨d1, -⟩ := cell1_of hv2.cd
  have H2 := Lib.hid hv2.bel
  clear hv2 hc2
  go_wp2_with fail
  go_quiet (fail)
  go_wp2_with fail
  go_ret2
  exact ⟨rfl, by have := H2.out; repeat (first | assumption | (refine Below.drew ?_) | (refine below_drewN ?_ _))⟩
end Go.Proofs.Ytkmnigoikkffnaa
