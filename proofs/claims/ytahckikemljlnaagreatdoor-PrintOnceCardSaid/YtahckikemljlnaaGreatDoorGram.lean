/- Grammars; how a value holds one; gram.Find. -/
import Derived.Test.YtahckikemljlnaaGreatDoorPtSame
import Derived.Test.YtahckikemljlnaaGreatDoorReMark
import Derived.Laws.EntriesVeiled
set_option linter.unusedVariables false
set_option linter.unusedSimpArgs false
namespace Go.Proofs.YtahckikemljlnaaGreatDoor
open Go.RowKit Ru

structure TK where
  name : ByteArray
  kind : Int
  cls : Int
  re : RE
structure ST where
  calls : List ByteArray
  p : PT
structure RU where
  cls : Int
  free : Bool
  steps : List ST
theorem fm_get {α : Type} (f : α → List Value) (W : Nat) (hW : ∀ a, (f a).length = W) : ∀ (l : List α) (i j : Nat) (a : α), l[i]? = some a → j < W → (l.flatMap f)[i * W + j]? = (f a)[j]? := by
  intro l
  induction l with
  | nil => intro i j a h; simp at h
  | cons x l ih =>
    intro i j a h hj
    rw [List.flatMap_cons]
    cases i with
    | zero => simp at h; subst h; rw [Nat.zero_mul, Nat.zero_add, List.getElem?_append_left (by rw [hW]; exact hj)]
    | succ i =>
      rw [List.getElem?_append_right (by rw [hW, Nat.succ_mul]; omega), hW, ← ih i j a (by simpa using h) hj]
      congr 1
      rw [Nat.succ_mul]; omega
def six (p : TK × Value × Value) : List Value := [.string p.1.name, .int .i64 p.1.kind, .int .i64 p.1.cls, .int .i64 p.1.re.kind, p.2.1, p.2.2]
def five (p : ST × Value × Value × Value × Value) : List Value := [p.2.1, .int .i64 p.1.p.kind, p.2.2.1, p.2.2.2.1, p.2.2.2.2]
def three (p : RU × Value) : List Value := [.int .i64 p.1.cls, .bool p.1.free, p.2]
/-- a slice of tokens -/
def TksAre (w : World) (v : Value) (l : List TK) : Prop := ∃ ps : List (TK × Value × Value), ps.map (·.1) = l ∧ Row w v l.length (ps.flatMap six) ∧ ∀ (i : Nat) (p : TK × Value × Value), ps[i]? = some p → ReIs w p.1.re p.2.1 p.2.2
/-- a slice of steps -/
def StsAre (w : World) (v : Value) (l : List ST) : Prop := ∃ ps : List (ST × Value × Value × Value × Value), ps.map (·.1) = l ∧ Row w v l.length (ps.flatMap five) ∧
  ∀ (i : Nat) (p : ST × Value × Value × Value × Value), ps[i]? = some p → Row w p.2.1 p.1.calls.length (strs p.1.calls) ∧ PtIs w p.1.p p.2.2.1 p.2.2.2.1 p.2.2.2.2
/-- a slice of rules -/
def RusAre (w : World) (v : Value) (l : List RU) : Prop := ∃ ps : List (RU × Value), ps.map (·.1) = l ∧ Row w v l.length (ps.flatMap three) ∧ ∀ (i : Nat) (p : RU × Value), ps[i]? = some p → StsAre w p.2 p.1.steps
theorem TksAre.moved {w w' : World} {v : Value} {l : List TK} (h : TksAre w v l) (hb : Below w.heap.size w w') : TksAre w' v l := by
  obtain ⟨ps, h1, h2, h3⟩ := h; exact ⟨ps, h1, h2.below hb, fun i p hp => (h3 i p hp).moved hb⟩
theorem StsAre.moved {w w' : World} {v : Value} {l : List ST} (h : StsAre w v l) (hb : Below w.heap.size w w') : StsAre w' v l := by
  obtain ⟨ps, h1, h2, h3⟩ := h; exact ⟨ps, h1, h2.below hb, fun i p hp => ⟨(h3 i p hp).1.below hb, (h3 i p hp).2.moved hb⟩⟩
theorem RusAre.moved {w w' : World} {v : Value} {l : List RU} (h : RusAre w v l) (hb : Below w.heap.size w w') : RusAre w' v l := by
  obtain ⟨ps, h1, h2, h3⟩ := h; exact ⟨ps, h1, h2.below hb, fun i p hp => (h3 i p hp).moved hb⟩
/-- the tokens' cells -/
theorem TksAre.all {w : World} {v : Value} {l : List TK} (h : TksAre w v l) : ∃ (o : Option Addr) (cap : Nat) (nm : Nat → ByteArray) (kd cl rk : Nat → Int) (so : Nat → Option Addr) (sn sc : Nat → Nat) (lo : Nat → Option Addr) (ln lc : Nat → Nat), v = .slice o l.length cap ∧
    ∀ (i : Nat) (t : TK), l[i]? = some t → nm i = t.name ∧ kd i = t.kind ∧ cl i = t.cls ∧ rk i = t.re.kind ∧ ReIs w t.re (.slice (so i) (sn i) (sc i)) (.slice (lo i) (ln i) (lc i)) ∧ ∃ b off, o = some ⟨b, off, none⟩ ∧ b < w.heap.size ∧
      w.cell? ⟨b, off + i * 6, none⟩ = some (.string (nm i)) ∧ w.cell? ⟨b, off + i * 6 + 1, none⟩ = some (.int .i64 (kd i)) ∧ w.cell? ⟨b, off + i * 6 + 2, none⟩ = some (.int .i64 (cl i)) ∧ w.cell? ⟨b, off + i * 6 + 3, none⟩ = some (.int .i64 (rk i)) ∧ w.cell? ⟨b, off + i * 6 + 4, none⟩ = some (.slice (so i) (sn i) (sc i)) ∧ w.cell? ⟨b, off + i * 6 + 5, none⟩ = some (.slice (lo i) (ln i) (lc i)) := by
  obtain ⟨ps, rfl, hrow, hre⟩ := h
  have hrow2 := hrow
  obtain ⟨o, cap, rfl, _⟩ := hrow2
  let g : Nat → TK × Value × Value := fun i => ps.getD i (⟨⟨#[]⟩, 0, 0, .mk 0 [] []⟩, .nilIface, .nilIface)
  refine ⟨o, cap, fun i => (g i).1.name, fun i => (g i).1.kind, fun i => (g i).1.cls, fun i => (g i).1.re.kind, fun i => slO (g i).2.1, fun i => slN (g i).2.1, fun i => slC (g i).2.1, fun i => slO (g i).2.2, fun i => slN (g i).2.2, fun i => slC (g i).2.2, rfl, fun i t ht => ?_⟩
  rw [List.getElem?_map] at ht
  obtain ⟨p, hp, rfl⟩ := Option.map_eq_some_iff.1 ht
  have hg : g i = p := by show ps.getD i _ = p; rw [List.getD, hp]; rfl
  simp only [hg]
  have hi : i < ps.length := (List.getElem?_eq_some_iff.1 hp).1
  obtain ⟨b, off, cap', e, hb, hc⟩ := hrow.cells' (by simp; omega)
  simp only [Value.slice.injEq, true_and] at e
  obtain ⟨rfl, rfl⟩ := e
  have hr := hre i p hp
  obtain ⟨⟨x1, y1, e1⟩, ⟨x2, y2, e2⟩⟩ := hr.form
  have hget : ∀ j u, (six p)[j]? = some u → j < 6 → w.cell? ⟨b, off + (i * 6 + j), none⟩ = some u := fun j u hu hj => hc _ _ (by rw [fm_get six 6 (fun _ => rfl) ps i j p hp hj]; exact hu)
  have g4 := hget 4 _ rfl (by omega)
  have g5 := hget 5 _ rfl (by omega)
  rw [e1] at g4 hr
  rw [e2] at g5 hr
  rw [e1, e2]
  refine ⟨trivial, trivial, trivial, trivial, hr, b, off, rfl, hb, hget 0 _ rfl (by omega), ?_, ?_, ?_, ?_, ?_⟩
  · rw [Nat.add_assoc]; exact hget 1 _ rfl (by omega)
  · rw [Nat.add_assoc]; exact hget 2 _ rfl (by omega)
  · rw [Nat.add_assoc]; exact hget 3 _ rfl (by omega)
  · rw [Nat.add_assoc]; exact g4
  · rw [Nat.add_assoc]; exact g5
/-- the first token of that name -/
def findB (l : List TK) (s : ByteArray) : Int := match l.findIdx? (fun t => decide (t.name = s)) with | some i => i | none => -1
theorem findB_hit {l : List TK} {s : ByteArray} {i : Nat} {t : TK} (ht : l[i]? = some t) (he : t.name = s) (hno : ∀ j u, j < i → l[j]? = some u → u.name ≠ s) : findB l s = i := by
  have : l.findIdx? (fun t => decide (t.name = s)) = some i := by
    obtain ⟨hi, hti⟩ := List.getElem?_eq_some_iff.1 ht
    rw [List.findIdx?_eq_some_iff_getElem]
    refine ⟨hi, by rw [hti]; simpa using he, fun j hj => ?_⟩
    have := hno j l[j] hj (List.getElem?_eq_getElem (by omega))
    simpa using this
  unfold findB
  rw [this]
theorem findB_miss {l : List TK} {s : ByteArray} (hno : ∀ (j : Nat) (u : TK), l[j]? = some u → u.name ≠ s) : findB l s = -1 := by
  have : l.findIdx? (fun t => decide (t.name = s)) = none := by
    rw [List.findIdx?_eq_none_iff]
    intro t ht
    obtain ⟨j, hj, rfl⟩ := List.getElem_of_mem ht
    have := hno j _ (List.getElem?_eq_getElem hj)
    simpa using this
  unfold findB
  rw [this]

set_option maxHeartbeats 8000000 in
set_option maxRecDepth 100000 in
theorem tkFind_index (n : Nat) (o : Option Addr) (cap : Nat) (cap0 : Value) (a0 : Nat → ByteArray) (a1 : Nat → Int) (a2 : Nat → Int) (a3 : Nat → Int) (a4o : Nat → Option Addr) (a4n a4c : Nat → Nat) (a5o : Nat → Option Addr) (a5n a5c : Nat → Nat) (St : Nat → World → Prop) (Fin : Nat → World → Prop) (w : World) (hn : n ≤ 1000000)
    (hel : ∀ i, i < n → ∃ b off, o = some ⟨b, off, none⟩ ∧ ∀ w', St i w' → w'.cell? ⟨b, off + i * 6, none⟩ = some (.string (a0 i)) ∧ w'.cell? ⟨b, off + i * 6 + 1, none⟩ = some (.int .i64 (a1 i)) ∧ w'.cell? ⟨b, off + i * 6 + 2, none⟩ = some (.int .i64 (a2 i)) ∧ w'.cell? ⟨b, off + i * 6 + 3, none⟩ = some (.int .i64 (a3 i)) ∧ w'.cell? ⟨b, off + i * 6 + 4, none⟩ = some (.slice (a4o i) (a4n i) (a4c i)) ∧ w'.cell? ⟨b, off + i * 6 + 5, none⟩ = some (.slice (a5o i) (a5n i) (a5c i)))
    (hf : ∀ i w', i < n → St i w' → Calls Tryz.prog 193 #[.agg #[.string (a0 i), .int .i64 (a1 i), .int .i64 (a2 i), .int .i64 (a3 i), .slice (a4o i) (a4n i) (a4c i), .slice (a5o i) (a5n i) (a5c i)], cap0] w' fun e w'' => (e = .returned (.bool true) ∧ Fin i w'') ∨ (e = .returned (.bool false) ∧ St (i + 1) w''))
    (h0 : St 0 w) :
    Calls Tryz.prog 115 #[.slice o n cap, .func (Fn.func 193) #[] #[cap0]] w fun e w' => (∃ i : Nat, i < n ∧ e = .returned (.int .i64 i) ∧ Fin i w') ∨ (e = .returned (.int .i64 (-1)) ∧ St n w') := by
  have HEL := Lib.hid hel
  have HF := Lib.hid hf
  clear hel hf
  go_enter Tryz.func115, Tryz.ntmps115
  go_wp2_with fail
  go_loopg [8] n (fun g i wx => ∃ k : Nat, k + g = n ∧ i = .int .i64 k ∧ St k wx)
  case atStart => exact ⟨0, by omega, rfl, h0⟩
  case round =>
    obtain ⟨k, hkg, rfl, hSt⟩ := hrel
    obtain ⟨wo, rfl⟩ : ∃ wo : World, wo = wr := ⟨_, rfl⟩
    cases gk with
    | zero =>
      obtain rfl : k = n := by omega
      have hd : decide ((k : Int) < (k : Int)) = false := by simp
      have HS := Lib.hid hSt
      clear hSt
      go_wp2
      go_ret
      exact .inr ⟨rfl, HS.out⟩
    | succ g =>
      have hk : k < n := by omega
      have hd : decide ((k : Int) < (n : Int)) = true := by simp; omega
      have hk1 : (0 : Int) ≤ (k : Int) := by omega
      have hk2 : (k : Int) < (n : Int) := by omega
      have hk9 : (k : Int) ≤ 1000000 := by omega
      obtain ⟨b, off, rfl, hcell⟩ := HEL.out k hk
      have KK := hcell wo hSt
      have hc := HF.out k wo hk hSt
      obtain ⟨xa0, hxa0⟩ : ∃ d, d = a0 k := ⟨_, rfl⟩
      rw [← hxa0] at KK hc
      clear hxa0
      obtain ⟨xa1, hxa1⟩ : ∃ d, d = a1 k := ⟨_, rfl⟩
      rw [← hxa1] at KK hc
      clear hxa1
      obtain ⟨xa2, hxa2⟩ : ∃ d, d = a2 k := ⟨_, rfl⟩
      rw [← hxa2] at KK hc
      clear hxa2
      obtain ⟨xa3, hxa3⟩ : ∃ d, d = a3 k := ⟨_, rfl⟩
      rw [← hxa3] at KK hc
      clear hxa3
      obtain ⟨xa4o, hxa4o⟩ : ∃ d, d = a4o k := ⟨_, rfl⟩
      rw [← hxa4o] at KK hc
      clear hxa4o
      obtain ⟨xa4n, hxa4n⟩ : ∃ d, d = a4n k := ⟨_, rfl⟩
      rw [← hxa4n] at KK hc
      clear hxa4n
      obtain ⟨xa4c, hxa4c⟩ : ∃ d, d = a4c k := ⟨_, rfl⟩
      rw [← hxa4c] at KK hc
      clear hxa4c
      obtain ⟨xa5o, hxa5o⟩ : ∃ d, d = a5o k := ⟨_, rfl⟩
      rw [← hxa5o] at KK hc
      clear hxa5o
      obtain ⟨xa5n, hxa5n⟩ : ∃ d, d = a5n k := ⟨_, rfl⟩
      rw [← hxa5n] at KK hc
      clear hxa5n
      obtain ⟨xa5c, hxa5c⟩ : ∃ d, d = a5c k := ⟨_, rfl⟩
      rw [← hxa5c] at KK hc
      clear hxa5c
      obtain ⟨k0, k1, k2, k3, k4, k5⟩ := KK
      have HC := Lib.hid hc
      clear hcell hSt hc
      go_wp2_with fail
      refine HC.out.mono ?_
      rintro e w2 (⟨rfl, hfin⟩ | ⟨rfl, hst⟩)
      · have HX := Lib.hid hfin
        clear hfin
        go_wp2
        go_ret
        exact .inl ⟨k, hk, rfl, HX.out⟩
      · have HX := Lib.hid hst
        clear hst
        go_wp2
        go_roundg g
        case measure => omega
        case rel => exact ⟨k + 1, by omega, by go_num, HX.out⟩

set_option maxHeartbeats 4000000 in
set_option maxRecDepth 100000 in
theorem find1_any (q : Nat) (s nm : ByteArray) (kd cl rk : Int) (so lo : Option Addr) (sn sc ln lc : Nat) (w : World) (hq : w.heap[q]? = some (.cells #[.string s] 9 (0, 0))) :
    Calls Tryz.prog 193 #[.agg #[.string nm, .int .i64 kd, .int .i64 cl, .int .i64 rk, .slice so sn sc, .slice lo ln lc], .pointer (some ⟨q, 0, none⟩)] w fun x w' => x = .returned (.bool (decide (nm = s))) ∧ Below w.heap.size w w' := by
  obtain ⟨c0, f0⟩ := cell1_of hq
  have hlt := hp_lt hq
  have hne : ¬ q = w.heap.size := by omega
  obtain ⟨r, hr⟩ : ∃ r, r = decide (nm = s) := ⟨_, rfl⟩
  have heq : (nm.toList == s.toList) = r := by
    rw [hr]
    by_cases h : nm = s
    · subst h; simp
    · rw [bytes_ne h, decide_eq_false h]
  rw [← hr]
  clear hr hq
  go_enter Tryz.func193, Tryz.ntmps193
  go_wp2_with fail
  go_ret
  exact ⟨by rfl, bel_new (Below.refl _ _) _⟩
set_option maxHeartbeats 4000000 in
set_option maxRecDepth 100000 in
/-- gram.Find -/
theorem gramFind_any (l : List TK) (tv rv : Value) (s : ByteArray) (w : World) (h : TksAre w tv l) (hl : l.length ≤ 1000) (hrv : ∃ o n c, rv = .slice o n c) :
    Calls Tryz.prog 151 #[.agg #[tv, rv], .string s] w fun x w' => x = .returned (.int .i64 (findB l s)) ∧ Below w.heap.size w w' := by
  obtain ⟨o, cap, nm, kd, cl, rk, so, sn, sc, lo, ln, lc, rfl, hall⟩ := h.all
  obtain ⟨o9, n9, c9, rfl⟩ := hrv
  have hmf : ∀ (fn : Fn) (first cap : Array Value) (w : World), (Instr.makeFunc fn first cap).run Tryz.prog w = .ok (.func fn first cap) w := fun _ _ _ _ => rfl
  have hidx := fun (q : Nat) (w' : World) (hb : Below w.heap.size w w') (hq : w'.heap[q]? = some (.cells #[.string s] 9 (0, 0))) => tkFind_index l.length o cap (.pointer (some ⟨q, 0, none⟩)) nm kd cl rk so sn sc lo ln lc
    (fun i w'' => Below w'.heap.size w' w'' ∧ ∀ j u, j < i → l[j]? = some u → u.name ≠ s) (fun i w'' => Below w'.heap.size w' w'' ∧ findB l s = i) w' (by omega)
    (fun i hi => by
      obtain ⟨e1, e2, e3, e4, hr, b, off, ho, hbl, k0, k1, k2, k3, k4, k5⟩ := hall i _ (List.getElem?_eq_getElem hi)
      refine ⟨b, off, ho, fun w'' hSt => ?_⟩
      have hbb := bel_then hb hSt.1
      exact ⟨(hbb.cell hbl).trans k0, (hbb.cell hbl).trans k1, (hbb.cell hbl).trans k2, (hbb.cell hbl).trans k3, (hbb.cell hbl).trans k4, (hbb.cell hbl).trans k5⟩)
    (fun i w1 hi hSt => by
      have ht := List.getElem?_eq_getElem (l := l) hi
      obtain ⟨e1, e2, e3, e4, hr, -⟩ := hall i _ ht
      refine (find1_any q s (nm i) _ _ _ _ _ _ _ _ _ w1 (bel_get hSt.1 hq)).mono ?_
      rintro x w3 ⟨rfl, hb3⟩
      rw [e1]
      by_cases hs : (l[i]).name = s
      · exact .inl ⟨by rw [decide_eq_true hs], bel_then hSt.1 hb3, findB_hit ht hs hSt.2⟩
      · refine .inr ⟨by rw [decide_eq_false hs], bel_then hSt.1 hb3, fun j u hj hu => ?_⟩
        rcases Nat.lt_or_ge j i with h | h
        · exact hSt.2 j u h hu
        · obtain rfl : j = i := by omega
          rw [ht] at hu; cases hu; exact hs)
    ⟨Below.refl _ _, fun j u hj => by omega⟩
  have HI := Lib.hid hidx
  clear hidx hall h
  go_enter Tryz.func151, Tryz.ntmps151
  go_wp2_with fail
  have hb0 : ∀ (x y : Obj), Below w.heap.size w ((w.alloc x).alloc y) := fun x y => bel_new (bel_new (Below.refl _ _) _) _
  refine (HI.out (w.heap.size + 1) _ (by exact hb0 _ _) (by simpa using heap_alloc_new (w.alloc (.cells #[.slice o l.length cap, .slice o9 n9 c9] 26)) (.cells #[.string s] 9))).mono ?_
  rintro x w2 (⟨i, hi, rfl, hb2, hfi⟩ | ⟨rfl, hb2, hno⟩)
  · have HX := Lib.hid (And.intro (bel_then (hb0 _ _) hb2) hfi)
    clear hb2 hfi
    go_wp2_with fail
    go_ret
    exact ⟨by rw [HX.out.2]; rfl, HX.out.1⟩
  · have HX := Lib.hid (And.intro (bel_then (hb0 _ _) hb2) (findB_miss (l := l) (s := s) (fun j u hu => hno j u (List.getElem?_eq_some_iff.1 hu).1 hu)))
    clear hb2 hno
    go_wp2_with fail
    go_ret
    exact ⟨by rw [HX.out.2]; rfl, HX.out.1⟩
end Go.Proofs.YtahckikemljlnaaGreatDoor
