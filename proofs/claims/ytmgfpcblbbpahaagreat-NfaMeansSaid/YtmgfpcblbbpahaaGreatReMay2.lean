/- regex.May. -/
import Derived.Test.YtmgfpcblbbpahaaGreatReMay
import Derived.Laws.EntriesVeiled
set_option linter.unusedVariables false
set_option linter.unusedSimpArgs false
namespace Go.Proofs.YtmgfpcblbbpahaaGreat
open Go.RowKit Ru

set_option maxHeartbeats 4000000 in
set_option maxRecDepth 100000 in
theorem reValid_index (n : Nat) (o : Option Addr) (cap : Nat) (cap0 cap1 : Value) (c0 c1 c2 : Nat → Value) (St : Nat → World → Prop) (Fin : Nat → World → Prop) (w : World) (hn : n ≤ 1000000)
    (hel : ∀ i, i < n → ∃ b off, o = some ⟨b, off, none⟩ ∧ ∀ w', St i w' → w'.cell? ⟨b, off + i * 3, none⟩ = some (c0 i) ∧ w'.cell? ⟨b, off + i * 3 + 1, none⟩ = some (c1 i) ∧ w'.cell? ⟨b, off + i * 3 + 2, none⟩ = some (c2 i))
    (hf : ∀ i w', i < n → St i w' → Calls Tryz.prog 52 #[.agg #[c0 i, c1 i, c2 i], cap0, cap1] w' fun e w'' => (e = .returned (.bool true) ∧ Fin i w'') ∨ (e = .returned (.bool false) ∧ St (i + 1) w''))
    (h0 : St 0 w) :
    Calls Tryz.prog 53 #[.slice o n cap, .func (Fn.func 52) #[] #[cap0, cap1]] w fun e w' => (∃ i : Nat, i < n ∧ e = .returned (.int .i64 i) ∧ Fin i w') ∨ (e = .returned (.int .i64 (-1)) ∧ St n w') := by
  have HEL := Lib.hid hel
  have HF := Lib.hid hf
  clear hel hf
  go_enter Tryz.func53, Tryz.ntmps53
  go_wp2_with fail
  go_loopg [8] n (fun g i wx => ∃ k : Nat, k + g = n ∧ i = .int .i64 k ∧ St k wx)
  case atStart => exact ⟨0, by omega, rfl, h0⟩
  case round =>
    obtain ⟨k, hkg, rfl, hSt⟩ := hrel
    obtain ⟨wo, rfl⟩ : ∃ wo : World, wo = wr := ⟨_, rfl⟩
    cases gk with
    | zero =>
      obtain rfl : k = n := by omega
      have hd : decide ((k : Int) < (k : Int)) = false := by simp
      have HS := Lib.hid hSt
      clear hSt
      go_wp2
      go_ret
      exact .inr ⟨rfl, HS.out⟩
    | succ g =>
      have hk : k < n := by omega
      have hd : decide ((k : Int) < (n : Int)) = true := by simp; omega
      have hk1 : (0 : Int) ≤ (k : Int) := by omega
      have hk2 : (k : Int) < (n : Int) := by omega
      have hk9 : (k : Int) ≤ 1000000 := by omega
      obtain ⟨b, off, rfl, hcell⟩ := HEL.out k hk
      obtain ⟨k0, k1, k2⟩ := hcell wo hSt
      have hc := HF.out k wo hk hSt
      obtain ⟨d0, hd0⟩ : ∃ d, d = c0 k := ⟨_, rfl⟩
      rw [← hd0] at k0 hc
      clear hd0
      obtain ⟨d1, hd1⟩ : ∃ d, d = c1 k := ⟨_, rfl⟩
      rw [← hd1] at k1 hc
      clear hd1
      obtain ⟨d2, hd2⟩ : ∃ d, d = c2 k := ⟨_, rfl⟩
      rw [← hd2] at k2 hc
      clear hd2
      have HC := Lib.hid hc
      clear hcell hSt hc
      go_wp2_with fail
      refine HC.out.mono ?_
      rintro e w2 (⟨rfl, hfin⟩ | ⟨rfl, hst⟩)
      · have HX := Lib.hid hfin
        clear hfin
        go_wp2
        go_ret
        exact .inl ⟨k, hk, rfl, HX.out⟩
      · have HX := Lib.hid hst
        clear hst
        go_wp2
        go_roundg g
        case measure => omega
        case rel => exact ⟨k + 1, by omega, by go_num, HX.out⟩

set_option maxHeartbeats 4000000 in
set_option maxRecDepth 100000 in
theorem reValid_contains (n : Nat) (o : Option Addr) (cap : Nat) (cap0 cap1 : Value) (c0 c1 c2 : Nat → Value) (St : Nat → World → Prop) (Fin : Nat → World → Prop) (w : World) (hn : n ≤ 1000000)
    (hel : ∀ i, i < n → ∃ b off, o = some ⟨b, off, none⟩ ∧ ∀ w', St i w' → w'.cell? ⟨b, off + i * 3, none⟩ = some (c0 i) ∧ w'.cell? ⟨b, off + i * 3 + 1, none⟩ = some (c1 i) ∧ w'.cell? ⟨b, off + i * 3 + 2, none⟩ = some (c2 i))
    (hf : ∀ i w', i < n → St i w' → Calls Tryz.prog 52 #[.agg #[c0 i, c1 i, c2 i], cap0, cap1] w' fun e w'' => (e = .returned (.bool true) ∧ Fin i w'') ∨ (e = .returned (.bool false) ∧ St (i + 1) w''))
    (h0 : St 0 w) :
    Calls Tryz.prog 26 #[.slice o n cap, .func (Fn.func 52) #[] #[cap0, cap1]] w fun e w' => (∃ i : Nat, i < n ∧ e = .returned (.bool true) ∧ Fin i w') ∨ (e = .returned (.bool false) ∧ St n w') := by
  have hc := reValid_index n o cap cap0 cap1 c0 c1 c2 St Fin w hn hel hf h0
  have HC := Lib.hid hc
  clear hc hf hel
  go_enter Tryz.func26, Tryz.ntmps26
  go_wp2_with fail
  refine HC.out.mono ?_
  rintro e w2 (⟨i, hi, rfl, hfin⟩ | ⟨rfl, hst⟩)
  · have HX := Lib.hid hfin
    have hi0 : decide ((0 : Int) ≤ (i : Int)) = true := by simp
    have hi9 : (i : Int) ≤ 1000000 := by omega
    clear hfin
    go_wp2
    go_ret
    exact .inl ⟨i, hi, rfl, HX.out⟩
  · have HX := Lib.hid hst
    clear hst
    go_wp2
    go_ret
    exact .inr ⟨rfl, HX.out⟩

theorem ReIs.all {w : World} {e : RE} {sv lv : Value} (h : ReIs w e sv lv) : ∃ (o : Option Addr) (cap : Nat) (c1 c2 : Nat → Value), lv = .slice o e.parts.length cap ∧
    ∀ (i : Nat) (p : RE), e.parts[i]? = some p → ReIs w p (c1 i) (c2 i) ∧ ∃ b off, o = some ⟨b, off, none⟩ ∧ b < w.heap.size ∧ w.cell? ⟨b, off + i * 3, none⟩ = some (.int .i64 p.kind) ∧ w.cell? ⟨b, off + i * 3 + 1, none⟩ = some (c1 i) ∧ w.cell? ⟨b, off + i * 3 + 2, none⟩ = some (c2 i) := by
  cases h with
  | mk k s l sv lv ps hs hl hn hk ih =>
    have hl2 := hl
    obtain ⟨o, cap, rfl, _⟩ := hl2
    refine ⟨o, cap, fun i => (ps.getD i (0, .nilIface, .nilIface)).2.1, fun i => (ps.getD i (0, .nilIface, .nilIface)).2.2, rfl, fun i p hp => ?_⟩
    have hi : i < l.length := (List.getElem?_eq_some_iff.1 hp).1
    obtain ⟨b, off, cap', e, hb, hc⟩ := hl.cells' (by omega)
    simp only [Value.slice.injEq, true_and] at e
    obtain ⟨rfl, rfl⟩ := e
    obtain ⟨q, hq⟩ : ∃ q, ps[i]? = some q := ⟨ps[i], List.getElem?_eq_getElem (by omega)⟩
    have hd : ps.getD i (0, .nilIface, .nilIface) = q := by rw [List.getD, hq]; rfl
    have g := trip_get ps i q hq
    show ReIs w p (ps.getD i (0, .nilIface, .nilIface)).2.1 (ps.getD i (0, .nilIface, .nilIface)).2.2 ∧ _
    simp only [hd]
    refine ⟨ih i p q hp hq, b, off, rfl, hb, ?_, ?_, ?_⟩
    · rw [hk i p q hp hq]; exact hc _ _ g.1
    · have := hc _ _ g.2.1; simpa [Nat.add_assoc] using this
    · have := hc _ _ g.2.2; simpa [Nat.add_assoc] using this
theorem RE.vis_cnt : ∀ (N : Nat) (e : RE), e.size ≤ N → ∀ n d, (e.vis n d).1 = true → (e.vis n d).2 ≤ 60 := by
  intro N
  induction N with
  | zero => intro e h; have := e.size_pos; omega
  | succ N ih =>
    intro e hs n d h
    rw [RE.vis_eq] at h ⊢
    split at h
    · cases h
    · rename_i hc
      rw [if_neg hc]
      have hn : n + 1 ≤ 60 := by omega
      have hp : ∀ (i : Nat) (p : RE), e.parts[i]? = some p → p.size ≤ N := fun i p hp => by have := RE.size_part hp; omega
      have : ∀ (l : List RE) (m : Nat), (∀ p ∈ l, p.size ≤ N) → m ≤ 60 → (RE.visL l m (d + 1)).1 = true → (RE.visL l m (d + 1)).2 ≤ 60 := by
        intro l
        induction l with
        | nil => intro m _ hm _; rw [RE.visL_nil]; exact hm
        | cons a l ihl =>
          intro m hl hm h
          rw [RE.visL_cons] at h ⊢
          split at h
          · rename_i ha
            rw [if_pos ha]
            exact ihl _ (fun p hp => hl p (by simp [hp])) (ih a (hl a (by simp)) m (d + 1) ha) h
          · cases h
      exact this e.parts (n + 1) (fun p hpm => by obtain ⟨i, hi, rfl⟩ := List.getElem_of_mem hpm; exact hp i _ (List.getElem?_eq_getElem hi)) hn h
abbrev VFn (qn qv : Nat) : Value := .func (Fn.func 50) #[] #[.pointer (some ⟨qn, 0, none⟩), .pointer (some ⟨qv, 0, none⟩)]
/-- what the closure 'valid' finds: the tree's world ahead; the count; itself -/
structure VAt (w0 w : World) (qn qv n : Nat) : Prop where
  bel : Below w0.heap.size w0 w
  cn : w.heap[qn]? = some (.cells #[.int .i64 n] 3 (0, 0))
  cv : w.heap[qv]? = some (.cells #[VFn qn qv] 84 (0, 0))
  ln : w0.heap.size ≤ qn
  lv : w0.heap.size ≤ qv
  ne : qn ≠ qv
theorem VAt.go {w0 w w' : World} {qn qv n m : Nat} (h : VAt w0 w qn qv n) (hc : Ch w w' qn) (hn : w'.heap[qn]? = some (.cells #[.int .i64 m] 3 (0, 0))) : VAt w0 w' qn qv m :=
  ⟨hc.after h.bel h.ln, hn, hc.get h.cv (fun e => h.ne e.symm), h.ln, h.lv, h.ne⟩
theorem VAt.moved {w0 w w' : World} {qn qv n : Nat} (h : VAt w0 w qn qv n) (hb : Below w.heap.size w w') : VAt w0 w' qn qv n := h.go (Ch.of hb) (bel_get hb h.cn)
def VPost (w0 : World) (e : RE) (qn qv n deep : Nat) (w : World) (x : Ending) (w' : World) : Prop :=
  x = .returned (.bool (e.vis n deep).1) ∧ VAt w0 w' qn qv (e.vis n deep).2 ∧ Ch w w' qn
/-- what 'valid' does of all smaller trees -/
def VIh (w0 : World) (N qn qv : Nat) : Prop := ∀ (e : RE) (sv lv : Value) (n deep : Nat) (w : World), e.size ≤ N → e.Fit → ReIs w0 e sv lv → VAt w0 w qn qv n → n ≤ 1000 → deep ≤ 1000 →
  Calls Tryz.prog 50 #[.agg #[.int .i64 e.kind, sv, lv], .int .i64 deep, .pointer (some ⟨qn, 0, none⟩), .pointer (some ⟨qv, 0, none⟩)] w (VPost w0 e qn qv n deep w)
set_option maxHeartbeats 4000000 in
set_option maxRecDepth 100000 in
theorem valid_part (w0 : World) (N qn qv qd : Nat) (ih : VIh w0 N qn qv) (e : RE) (sv lv : Value) (n deep : Nat) (w : World) (hs : e.size ≤ N) (hf : e.Fit) (hr : ReIs w0 e sv lv) (hv : VAt w0 w qn qv n) (hn : n ≤ 1000) (hd : deep ≤ 999)
    (hq : w.heap[qd]? = some (.cells #[.int .i64 deep] 3 (0, 0))) :
    Calls Tryz.prog 52 #[.agg #[.int .i64 e.kind, sv, lv], .pointer (some ⟨qv, 0, none⟩), .pointer (some ⟨qd, 0, none⟩)] w fun x w' =>
      x = .returned (.bool (!(e.vis n (deep + 1)).1)) ∧ VAt w0 w' qn qv (e.vis n (deep + 1)).2 ∧ Ch w w' qn := by
  obtain ⟨⟨o1, q1, rfl⟩, ⟨o2, q2, rfl⟩⟩ := hr.form
  have hc := fun w' (hv' : VAt w0 w' qn qv n) => ih e _ _ n (deep + 1) w' hs hf hr hv' hn (by omega)
  obtain ⟨rb, hrb⟩ : ∃ rb, rb = (e.vis n (deep + 1)).1 := ⟨_, rfl⟩
  unfold VPost at hc
  rw [← hrb] at hc ⊢
  have hw1 : (deep : Int) + 1 = ((deep + 1 : Nat) : Int) := by omega
  have hdz : (deep : Int) ≤ 999 := by omega
  obtain ⟨c0, f0⟩ := cell1_of hv.cv
  unfold VFn at c0
  have hlv := hp_lt hv.cv
  obtain ⟨c1, f1⟩ := cell1_of hq
  have hld := hp_lt hq
  have HC := Lib.hid hc
  have HV := Lib.hid hv
  have HW := Lib.hid hw1
  clear hc hv hq hr ih hrb hw1
  go_enter Tryz.func52, Tryz.ntmps52
  go_wp2_with fail
  rw [show (Value.int .i64 ((deep : Int) + 1)) = .int .i64 ((deep + 1 : Nat) : Int) by rw [HW.out]]
  refine (HC.out _ (HV.out.moved (bel_new (Below.refl _ _) _))).mono ?_
  rintro x w2 ⟨rfl, hv2, hc2⟩
  have HX := Lib.hid (And.intro hv2 ((Ch.new w _ qn).trans hc2))
  clear hv2 hc2
  go_wp2
  go_ret
  exact ⟨rfl, HX.out.1, HX.out.2⟩
set_option maxHeartbeats 8000000 in
set_option maxRecDepth 100000 in
theorem valid_any (w0 : World) (qn qv : Nat) : ∀ N, VIh w0 N qn qv := by
  intro N
  induction N with
  | zero => intro e sv lv n deep w hs; have := e.size_pos; omega
  | succ N ih =>
    intro e sv lv n deep w hs hf hr hv hn hd
    obtain ⟨⟨o1, q1, rfl⟩, -⟩ := hr.form
    obtain ⟨o2, q2, c1, c2, rfl, hall⟩ := hr.all
    have hm1 := hf.sets
    have hve := e.vis_eq n deep
    have hqs := hp_lt hv.cn
    have hqs2 := hp_lt hv.cv
    obtain ⟨cn0, fn0⟩ := cell1_of hv.cn
    obtain ⟨W0', hW0⟩ : ∃ W0', W0' = w.setCell ⟨qn, 0, none⟩ (.int .i64 ((n + 1 : Nat) : Int)) := ⟨_, rfl⟩
    have hsz0 : W0'.heap.size = w.heap.size := by rw [hW0]; simp [World.setCell]
    have hc0 : Ch w W0' qn := by rw [hW0]; exact Ch.set _ _ _ _
    have hv0 : VAt w0 W0' qn qv (n + 1) := hv.go hc0 (by rw [hW0]; exact cell1_set hv.cn _)
    obtain ⟨W2, hW2⟩ : ∃ W2, W2 = (W0'.alloc (.cells #[.int .i64 e.kind, .slice o1 e.set.length q1, .slice o2 e.parts.length q2] 41)).alloc (.cells #[.int .i64 deep] 3) := ⟨_, rfl⟩
    have hb2 : Below W0'.heap.size W0' W2 := by rw [hW2]; exact bel_new (bel_new (Below.refl _ _) _) _
    have hE2 : W2.heap[w.heap.size]? = some (.cells #[.int .i64 e.kind, .slice o1 e.set.length q1, .slice o2 e.parts.length q2] 41 (0, 0)) := by
      rw [hW2, Below.heap_alloc _ _ _ (by simp [hsz0]), ← hsz0]; exact heap_alloc_new W0' _
    have hD2 : W2.heap[w.heap.size + 1]? = some (.cells #[.int .i64 deep] 3 (0, 0)) := by
      rw [hW2]
      have := heap_alloc_new (W0'.alloc (.cells #[.int .i64 e.kind, .slice o1 e.set.length q1, .slice o2 e.parts.length q2] 41)) (.cells #[.int .i64 deep] 3)
      simpa [hsz0] using this
    have hv2 : VAt w0 W2 qn qv (n + 1) := hv0.moved hb2
    have hcw : Ch w W2 qn := hc0.bel' hb2
    have hstep : ((w.setCell ⟨qn, 0, none⟩ (.int .i64 ((n : Int) + 1))).alloc (.cells #[.int .i64 e.kind, .slice o1 e.set.length q1, .slice o2 e.parts.length q2] 41)).alloc (.cells #[.int .i64 deep] 3) = W2 := by rw [hW2, hW0]; rfl
    have hsz2 : w.heap.size + 1 < W2.heap.size := hp_lt hD2
    have hnz : (n : Int) ≤ 1000 := by omega
    have hdz : (deep : Int) ≤ 1000 := by omega
    obtain ⟨d0, g0⟩ := cell1_of hv2.cn
    obtain ⟨d1, g1⟩ := cell1_of hD2
    have H2 := Lib.hid (And.intro hv2 (And.intro hcw (And.intro hE2 hD2)))
    have HALL := Lib.hid hall
    have HR := Lib.hid hr
    have hshape := fun w' hb => reShaped_any e _ _ w' (hr.moved hb) hf
    have HSH := Lib.hid hshape
    have HST := Lib.hid hstep
    clear hv hc0 hv0 hv2 hcw hE2 hD2 hb2 hW0 hW2 hsz0 hall hr hshape hstep
    by_cases hc60 : 60 < n + 1
    · have hres := Lib.hid (show e.vis n deep = (false, n + 1) by rw [hve, if_pos (.inl hc60)])
      have t60 : decide ((60 : Int) < (n : Int) + 1) = true := by simp; omega
      clear hve
      go_enter Tryz.func50, Tryz.ntmps50
      go_wp2_with fail
      go_ret
      unfold VPost
      rw [hres.out]
      refine ⟨rfl, ?_, ?_⟩
      · rw [HST.out]; exact H2.out.1
      · rw [HST.out]; exact H2.out.2.1
    have t60 : decide ((60 : Int) < (n : Int) + 1) = false := by simp; omega
    by_cases hc12 : 12 < deep
    · have hres := Lib.hid (show e.vis n deep = (false, n + 1) by rw [hve, if_pos (.inr (.inl hc12))])
      have t12 : decide ((12 : Int) < (deep : Int)) = true := by simp; omega
      clear hve
      go_enter Tryz.func50, Tryz.ntmps50
      go_wp2_with fail
      go_ret
      unfold VPost
      rw [hres.out, HST.out]
      exact ⟨rfl, H2.out.1, H2.out.2.1⟩
    have t12 : decide ((12 : Int) < (deep : Int)) = false := by simp; omega
    have hE2 := H2.out.2.2.1
    have hcell : ∀ w', Below W2.heap.size W2 w' → w'.cell? ⟨w.heap.size, 0, none⟩ = some (.int .i64 e.kind) ∧ w'.cell? ⟨w.heap.size, 1, none⟩ = some (.slice o1 e.set.length q1) ∧ w'.cell? ⟨w.heap.size, 2, none⟩ = some (.slice o2 e.parts.length q2) := fun w' hb => by
      have := bel_get hb hE2
      simp [World.cell?, this]
    obtain ⟨x0, x1, x2⟩ := hcell W2 (Below.refl _ _)
    have HCELL := Lib.hid hcell
    clear hcell hE2
    cases hsh : e.shp with
    | false =>
      have hres := Lib.hid (show e.vis n deep = (false, n + 1) by rw [hve, if_pos (.inr (.inr hsh))])
      have hs9 := Lib.hid (show e.shp = false from hsh)
      clear hve hsh
      go_enter Tryz.func50, Tryz.ntmps50
      go_wp2_with fail
      rw [HST.out]
      refine (HSH.out W2 (by first | exact H2.out.1.bel | exact H2.out.1.bel)).mono ?_
      rintro x w3 ⟨rfl, hb3⟩
      rw [hs9.out]
      have H3 := Lib.hid (And.intro (H2.out.1.moved hb3) (H2.out.2.1.bel' hb3))
      clear hb3
      go_wp2_with fail
      go_ret
      unfold VPost
      rw [hres.out]
      exact ⟨rfl, H3.out.1, H3.out.2⟩
    | true =>
      have hves := Lib.hid (show e.vis n deep = RE.visL e.parts (n + 1) (deep + 1) by rw [hve, if_neg (by rintro (h | h | h) <;> first | omega | (rw [hsh] at h; cases h))])
      have hs9 := Lib.hid (show e.shp = true from hsh)
      have hn60 : n + 1 ≤ 60 := by omega
      have hd12 : deep ≤ 12 := by omega
      clear hve hsh
      go_enter Tryz.func50, Tryz.ntmps50
      go_wp2_with fail
      rw [HST.out]
      refine (HSH.out W2 (by first | exact H2.out.1.bel | exact H2.out.1.bel)).mono ?_
      rintro x w3 ⟨rfl, hb3⟩
      rw [hs9.out]
      have hx := HCELL.out w3 hb3
      have hx2 := hx.2.2
      have hD3 := bel_get hb3 H2.out.2.2.2
      have hv3 := H2.out.1.moved hb3
      have hc3 := H2.out.2.1.bel' hb3
      have hz3 : w.heap.size + 1 < w3.heap.size := hp_lt hD3
      have H3 := Lib.hid (And.intro hv3 (And.intro hc3 hD3))
      have hmf : ∀ (fn : Fn) (first cap : Array Value) (w : World), (Instr.makeFunc fn first cap).run Tryz.prog w = .ok (.func fn first cap) w := fun _ _ _ _ => rfl
      clear hx hb3 hD3 hv3 hc3 x0 x1 x2 d0 d1 g0 g1
      go_wp2_with fail
      refine (reValid_contains e.parts.length o2 q2 (.pointer (some ⟨qv, 0, none⟩)) (.pointer (some ⟨w.heap.size + 1, 0, none⟩)) (fun i => .int .i64 (e.parts.getD i e).kind) c1 c2
        (fun i w' => ∃ m, m ≤ 60 ∧ VAt w0 w' qn qv m ∧ Ch w w' qn ∧ w'.heap[w.heap.size + 1]? = some (.cells #[.int .i64 deep] 3 (0, 0)) ∧ RE.visL e.parts (n + 1) (deep + 1) = RE.visL (e.parts.drop i) m (deep + 1))
        (fun i w' => ∃ m, VAt w0 w' qn qv m ∧ Ch w w' qn ∧ RE.visL e.parts (n + 1) (deep + 1) = (false, m))
        w3 (by omega) ?hel ?hf ⟨n + 1, hn60, H3.out.1, H3.out.2.1, H3.out.2.2, by rw [List.drop_zero]⟩).mono ?_
      case hel =>
        intro i hi
        obtain ⟨p, hp⟩ : ∃ p, e.parts[i]? = some p := ⟨e.parts[i], List.getElem?_eq_getElem hi⟩
        obtain ⟨hrp, b, off, rfl, hbl, k0, k1, k2⟩ := HALL.out i p hp
        have hg : e.parts.getD i e = p := by rw [List.getD, hp]; rfl
        refine ⟨b, off, rfl, fun w' hSt => ?_⟩
        obtain ⟨m, _, hvm, _⟩ := hSt
        rw [hg]
        exact ⟨(hvm.bel.cell hbl).trans k0, (hvm.bel.cell hbl).trans k1, (hvm.bel.cell hbl).trans k2⟩
      case hf =>
        intro i w' hi hSt
        obtain ⟨m, hm60, hvm, hcm, hdm, hvis⟩ := hSt
        obtain ⟨p, hp⟩ : ∃ p, e.parts[i]? = some p := ⟨e.parts[i], List.getElem?_eq_getElem hi⟩
        have hg : e.parts.getD i e = p := by rw [List.getD, hp]; rfl
        have hpe : e.parts[i] = p := by rw [List.getElem?_eq_getElem hi] at hp; exact Option.some.inj hp
        have hsz := RE.size_part hp
        rw [hg]
        refine (valid_part w0 N qn qv (w.heap.size + 1) ih p (c1 i) (c2 i) m deep w' (by omega) (hf.part hp) (HALL.out i p hp).1 hvm (by omega) (by omega) hdm).mono ?_
        rintro x w4 ⟨rfl, hv4, hc4⟩
        have hcons : RE.visL e.parts (n + 1) (deep + 1) = if (p.vis m (deep + 1)).1 = true then RE.visL (e.parts.drop (i + 1)) (p.vis m (deep + 1)).2 (deep + 1) else (false, (p.vis m (deep + 1)).2) := by
          rw [hvis, List.drop_eq_getElem_cons hi, RE.visL_cons, hpe]
        cases hb : (p.vis m (deep + 1)).1 with
        | true =>
          rw [hb, if_pos rfl] at hcons
          exact .inr ⟨rfl, _, RE.vis_cnt _ p (Nat.le_refl _) m (deep + 1) hb, hv4, hcm.trans hc4, hc4.get hdm (by have := hp_lt hvm.cn; omega), hcons⟩
        | false =>
          rw [hb, if_neg (by decide)] at hcons
          exact .inl ⟨rfl, _, hv4, hcm.trans hc4, hcons⟩
      rintro x w5 (⟨i, hi, rfl, m, hv5, hc5, hvis⟩ | ⟨rfl, m, hm60, hv5, hc5, hd5, hvis⟩)
      · have H5 := Lib.hid (And.intro hv5 (And.intro hc5 hvis))
        clear hv5 hc5 hvis
        go_wp2_with fail
        go_ret
        unfold VPost
        rw [hves.out, H5.out.2.2]
        exact ⟨rfl, H5.out.1, H5.out.2.1⟩
      · rw [List.drop_length, RE.visL_nil] at hvis
        have H5 := Lib.hid (And.intro hv5 (And.intro hc5 hvis))
        clear hv5 hc5 hvis hd5
        go_wp2_with fail
        go_ret
        unfold VPost
        rw [hves.out, H5.out.2.2]
        exact ⟨rfl, H5.out.1, H5.out.2.1⟩
set_option maxHeartbeats 4000000 in
set_option maxRecDepth 100000 in
/-- regex.May -/
theorem reMay_any (e : RE) (sv lv : Value) (w : World) (h : ReIs w e sv lv) (hf : e.Fit) :
    Calls Tryz.prog 25 #[.agg #[.int .i64 e.kind, sv, lv]] w fun x w' => x = .returned (.bool e.may) ∧ Below w.heap.size w w' := by
  obtain ⟨⟨o1, q1, rfl⟩, ⟨o2, q2, rfl⟩⟩ := h.form
  have hva := fun w' (hv : VAt w w' (w.heap.size + 1) (w.heap.size + 1 + 1) 0) => valid_any w (w.heap.size + 1) (w.heap.size + 1 + 1) e.size e _ _ 0 1 w' (Nat.le_refl _) hf h hv (by omega) (by omega)
  have HV := Lib.hid hva
  have hmf : ∀ (fn : Fn) (first cap : Array Value) (w : World), (Instr.makeFunc fn first cap).run Tryz.prog w = .ok (.func fn first cap) w := fun _ _ _ _ => rfl
  clear hva h hf
  go_enter Tryz.func25, Tryz.ntmps25
  go_wp2_with fail
  obtain ⟨W, hW⟩ : ∃ W, W = ((w.alloc (.cells #[.int .i64 e.kind, .slice o1 e.set.length q1, .slice o2 e.parts.length q2] 41)).alloc (.cells #[.int .i64 0] 3)).alloc (.cells #[VFn (w.heap.size + 1) (w.heap.size + 1 + 1)] 84) := ⟨_, rfl⟩
  have hb : Below w.heap.size w W := by rw [hW]; exact bel_new (bel_new (bel_new (Below.refl _ _) _) _) _
  have hv : VAt w W (w.heap.size + 1) (w.heap.size + 1 + 1) 0 := by
    refine ⟨hb, ?_, ?_, by omega, by omega, by omega⟩
    · rw [hW, Below.heap_alloc _ _ _ (by simp)]
      have := heap_alloc_new (w.alloc (.cells #[.int .i64 e.kind, .slice o1 e.set.length q1, .slice o2 e.parts.length q2] 41)) (.cells #[.int .i64 0] 3)
      simpa using this
    · rw [hW]
      have := heap_alloc_new ((w.alloc (.cells #[.int .i64 e.kind, .slice o1 e.set.length q1, .slice o2 e.parts.length q2] 41)).alloc (.cells #[.int .i64 0] 3)) (.cells #[VFn (w.heap.size + 1) (w.heap.size + 1 + 1)] 84)
      simpa using this
  refine (HV.out _ (by unfold VFn at hW; first | exact hW ▸ hv | (rw [← hW]; exact hv))).mono ?_
  rintro x w2 ⟨rfl, hv2, hc2⟩
  have H2 := Lib.hid hv2.bel
  clear hv2 hc2
  go_wp2_with fail
  go_ret
  exact ⟨rfl, H2.out⟩
end Go.Proofs.YtmgfpcblbbpahaaGreat
