/- print.Source. -/
import Derived.Test.YtbanmggkfpnalaaGreatDoorPrTok
import Derived.Test.YtbanmggkfpnalaaGreatDoorGRefC
set_option linter.unusedVariables false
set_option linter.unusedSimpArgs false
namespace Go.Proofs.YtbanmggkfpnalaaGreatDoor
open Go.RowKit Ru

namespace RE
mutual
def nn : RE → Bool
  | .mk k s l => decide (k = 0) || nnL l
def nnL : List RE → Bool
  | [] => false
  | e :: l => nn e || nnL l
end
theorem nn_eq (e : RE) : e.nn = (decide (e.kind = 0) || nnL e.parts) := by cases e; rw [nn]; rfl
theorem nnL_iff (l : List RE) : nnL l = true ↔ ∃ e ∈ l, e.nn = true := by
  induction l with
  | nil => rw [nnL]; simp
  | cons a l ih => rw [nnL, Bool.or_eq_true, ih]; simp
theorem nnL_not {l : List RE} (h : ∀ i, i < l.length → ∀ p, l[i]? = some p → p.nn = false) : nnL l = false := by
  cases hb : nnL l with
  | false => rfl
  | true =>
    obtain ⟨e, he, h1⟩ := (nnL_iff l).1 hb
    obtain ⟨i, hi, rfl⟩ := List.getElem_of_mem he
    rw [h i hi _ (List.getElem?_eq_getElem hi)] at h1
    cases h1
end RE

set_option maxHeartbeats 4000000 in
set_option maxRecDepth 100000 in
theorem prNone_index (n : Nat) (o : Option Addr) (cap : Nat) (c0 c1 c2 : Nat → Value) (St : Nat → World → Prop) (Fin : Nat → World → Prop) (w : World) (hn : n ≤ 1000000)
    (hel : ∀ i, i < n → ∃ b off, o = some ⟨b, off, none⟩ ∧ ∀ w', St i w' → w'.cell? ⟨b, off + i * 3, none⟩ = some (c0 i) ∧ w'.cell? ⟨b, off + i * 3 + 1, none⟩ = some (c1 i) ∧ w'.cell? ⟨b, off + i * 3 + 2, none⟩ = some (c2 i))
    (hf : ∀ i w', i < n → St i w' → Calls Tryz.prog 34 #[.agg #[c0 i, c1 i, c2 i]] w' fun e w'' => (e = .returned (.bool true) ∧ Fin i w'') ∨ (e = .returned (.bool false) ∧ St (i + 1) w''))
    (h0 : St 0 w) :
    Calls Tryz.prog 96 #[.slice o n cap, .func (Fn.func 34) #[] #[]] w fun e w' => (∃ i : Nat, i < n ∧ e = .returned (.int .i64 i) ∧ Fin i w') ∨ (e = .returned (.int .i64 (-1)) ∧ St n w') := by
  have HEL := Lib.hid hel
  have HF := Lib.hid hf
  clear hel hf
  go_enter Tryz.func96, Tryz.ntmps96
  go_wp2_with fail
  go_loopg [8] n (fun g i wx => ∃ k : Nat, k + g = n ∧ i = .int .i64 k ∧ St k wx)
  case atStart => exact ⟨0, by omega, rfl, h0⟩
  case round =>
    obtain ⟨k, hkg, rfl, hSt⟩ := hrel
    obtain ⟨wo, rfl⟩ : ∃ wo : World, wo = wr := ⟨_, rfl⟩
    cases gk with
    | zero =>
      obtain rfl : k = n := by omega
      have hd : decide ((k : Int) < (k : Int)) = false := by simp
      have HS := Lib.hid hSt
      clear hSt
      go_wp2
      go_ret
      exact .inr ⟨rfl, HS.out⟩
    | succ g =>
      have hk : k < n := by omega
      have hd : decide ((k : Int) < (n : Int)) = true := by simp; omega
      have hk1 : (0 : Int) ≤ (k : Int) := by omega
      have hk2 : (k : Int) < (n : Int) := by omega
      have hk9 : (k : Int) ≤ 1000000 := by omega
      obtain ⟨b, off, rfl, hcell⟩ := HEL.out k hk
      obtain ⟨k0, k1, k2⟩ := hcell wo hSt
      have hc := HF.out k wo hk hSt
      obtain ⟨d0, hd0⟩ : ∃ d, d = c0 k := ⟨_, rfl⟩
      rw [← hd0] at k0 hc
      clear hd0
      obtain ⟨d1, hd1⟩ : ∃ d, d = c1 k := ⟨_, rfl⟩
      rw [← hd1] at k1 hc
      clear hd1
      obtain ⟨d2, hd2⟩ : ∃ d, d = c2 k := ⟨_, rfl⟩
      rw [← hd2] at k2 hc
      clear hd2
      have HC := Lib.hid hc
      clear hcell hSt hc
      go_wp2_with fail
      refine HC.out.mono ?_
      rintro e w2 (⟨rfl, hfin⟩ | ⟨rfl, hst⟩)
      · have HX := Lib.hid hfin
        clear hfin
        go_wp2
        go_ret
        exact .inl ⟨k, hk, rfl, HX.out⟩
      · have HX := Lib.hid hst
        clear hst
        go_wp2
        go_roundg g
        case measure => omega
        case rel => exact ⟨k + 1, by omega, by go_num, HX.out⟩

set_option maxHeartbeats 4000000 in
set_option maxRecDepth 100000 in
theorem prNone_contains (n : Nat) (o : Option Addr) (cap : Nat) (c0 c1 c2 : Nat → Value) (St : Nat → World → Prop) (Fin : Nat → World → Prop) (w : World) (hn : n ≤ 1000000)
    (hel : ∀ i, i < n → ∃ b off, o = some ⟨b, off, none⟩ ∧ ∀ w', St i w' → w'.cell? ⟨b, off + i * 3, none⟩ = some (c0 i) ∧ w'.cell? ⟨b, off + i * 3 + 1, none⟩ = some (c1 i) ∧ w'.cell? ⟨b, off + i * 3 + 2, none⟩ = some (c2 i))
    (hf : ∀ i w', i < n → St i w' → Calls Tryz.prog 34 #[.agg #[c0 i, c1 i, c2 i]] w' fun e w'' => (e = .returned (.bool true) ∧ Fin i w'') ∨ (e = .returned (.bool false) ∧ St (i + 1) w''))
    (h0 : St 0 w) :
    Calls Tryz.prog 60 #[.slice o n cap, .func (Fn.func 34) #[] #[]] w fun e w' => (∃ i : Nat, i < n ∧ e = .returned (.bool true) ∧ Fin i w') ∨ (e = .returned (.bool false) ∧ St n w') := by
  have hc := prNone_index n o cap c0 c1 c2 St Fin w hn hel hf h0
  have HC := Lib.hid hc
  clear hc hf hel
  go_enter Tryz.func60, Tryz.ntmps60
  go_wp2_with fail
  refine HC.out.mono ?_
  rintro e w2 (⟨i, hi, rfl, hfin⟩ | ⟨rfl, hst⟩)
  · have HX := Lib.hid hfin
    have hi0 : decide ((0 : Int) ≤ (i : Int)) = true := by simp
    have hi9 : (i : Int) ≤ 1000000 := by omega
    clear hfin
    go_wp2
    go_ret
    exact .inl ⟨i, hi, rfl, HX.out⟩
  · have HX := Lib.hid hst
    clear hst
    go_wp2
    go_ret
    exact .inr ⟨rfl, HX.out⟩

set_option maxHeartbeats 4000000 in
set_option maxRecDepth 100000 in
theorem hasNone_all : ∀ (N : Nat) (e : RE) (sv lv : Value) (w : World), e.size ≤ N → e.Fit → ReIs w e sv lv →
    Calls Tryz.prog 34 #[.agg #[.int .i64 e.kind, sv, lv]] w fun x w' => x = .returned (.bool e.nn) ∧ Below w.heap.size w w' := by
  intro N
  induction N with
  | zero => intro e sv lv w h; have := e.size_pos; omega
  | succ N ih =>
    intro e sv lv w hs hf hr
    obtain ⟨⟨o1, q1, rfl⟩, -⟩ := hr.form
    obtain ⟨o2, q2, c1, c2, rfl, hall⟩ := hr.all
    have hm1 := hf.sets
    have hnn := e.nn_eq
    by_cases h0 : e.kind = 0
    · rw [h0] at hnn ⊢
      have HX := Lib.hid (show e.nn = true by rw [hnn]; rfl)
      obtain ⟨a, ha⟩ : ∃ a, a = e.set.length := ⟨_, rfl⟩
      obtain ⟨b, hb⟩ : ∃ b, b = e.parts.length := ⟨_, rfl⟩
      rw [← ha, ← hb]
      clear ha hb hnn hall hr hf hm1 ih hs h0
      go_enter Tryz.func34, Tryz.ntmps34
      go_wp2_with fail
      go_ret
      exact ⟨by rw [HX.out]; rfl, bel_new (Below.refl _ _) _⟩
    · have hc := fun w' (hb : Below w.heap.size w w') => prNone_contains e.parts.length o2 q2 (fun i => .int .i64 (e.parts.getD i e).kind) c1 c2
        (fun i w'' => Below w.heap.size w w'' ∧ Below w'.heap.size w' w'' ∧ ∀ j, j < i → ∀ p, e.parts[j]? = some p → p.nn = false)
        (fun i w'' => Below w'.heap.size w' w'' ∧ ∃ p, e.parts[i]? = some p ∧ p.nn = true)
        w' (by omega) (fun i hi => by
          obtain ⟨p, hp⟩ : ∃ p, e.parts[i]? = some p := ⟨e.parts[i], List.getElem?_eq_getElem hi⟩
          obtain ⟨hrp, b, off, rfl, hbl, k0, k1, k2⟩ := hall i p hp
          have hg : e.parts.getD i e = p := by rw [List.getD, hp]; rfl
          refine ⟨b, off, rfl, fun w'' hSt => ?_⟩
          rw [hg]
          exact ⟨(hSt.1.cell hbl).trans k0, (hSt.1.cell hbl).trans k1, (hSt.1.cell hbl).trans k2⟩) (fun i w'' hi hSt => by
          obtain ⟨hb1, hb2, hno⟩ := hSt
          obtain ⟨p, hp⟩ : ∃ p, e.parts[i]? = some p := ⟨e.parts[i], List.getElem?_eq_getElem hi⟩
          have hg : e.parts.getD i e = p := by rw [List.getD, hp]; rfl
          have hsz := RE.size_part hp
          rw [hg]
          refine (ih p (c1 i) (c2 i) w'' (by omega) (hf.part hp) ((hall i p hp).1.moved hb1)).mono ?_
          rintro x w4 ⟨rfl, hb4⟩
          cases hn : p.nn with
          | true => exact .inl ⟨rfl, bel_then hb2 hb4, p, hp, hn⟩
          | false =>
            refine .inr ⟨rfl, bel_then hb1 hb4, bel_then hb2 hb4, fun j hj p' hp' => ?_⟩
            rcases Nat.lt_or_ge j i with h | h
            · exact hno j h p' hp'
            · obtain rfl : j = i := by omega
              rw [hp] at hp'; cases hp'; exact hn) ⟨hb, Below.refl _ _, fun j hj => by omega⟩
      have hd : (e.kind == 0) = false := by simpa using h0
      have HC := Lib.hid (fun w' hb => (hc w' hb).mono (R' := fun x w'' => x = .returned (.bool e.nn) ∧ Below w'.heap.size w' w'') (by
        rintro x w5 (⟨i, hi, rfl, hb5, p, hp, hn⟩ | ⟨rfl, -, hb5, hno⟩)
        · refine ⟨?_, hb5⟩
          rw [hnn, (RE.nnL_iff e.parts).2 ⟨p, List.mem_of_getElem? hp, hn⟩, Bool.or_true]
        · refine ⟨?_, hb5⟩
          rw [hnn, RE.nnL_not hno]
          simp [h0]))
      obtain ⟨a, ha⟩ : ∃ a, a = e.set.length := ⟨_, rfl⟩
      obtain ⟨b, hb⟩ : ∃ b, b = e.parts.length := ⟨_, rfl⟩
      obtain ⟨k, hk⟩ : ∃ b, b = e.kind := ⟨_, rfl⟩
      obtain ⟨r, hr'⟩ : ∃ b, b = e.nn := ⟨_, rfl⟩
      rw [← hb, ← hr'] at HC
      rw [← hk] at hd
      rw [← ha, ← hb, ← hk, ← hr']
      clear ha hb hk hr' hnn hall hr hf hm1 ih hs h0 hc
      go_enter Tryz.func34, Tryz.ntmps34
      go_wp2_with fail
      refine (HC.out _ (bel_new (Below.refl _ _) _)).mono ?_
      rintro x w2 ⟨rfl, hb2⟩
      have HB2 := Lib.hid (bel_then (bel_new (Below.refl w.heap.size w) _) hb2)
      clear hb2
      go_wp2_with fail
      go_ret
      exact ⟨rfl, HB2.out⟩
set_option maxHeartbeats 4000000 in
set_option maxRecDepth 100000 in
theorem src1_any (nm : ByteArray) (kd cl : Int) (e : RE) (sv lv : Value) (w : World) (hf : e.Fit) (hr : ReIs w e sv lv) :
    Calls Tryz.prog 33 #[.agg #[.string nm, .int .i64 kd, .int .i64 cl, .int .i64 e.kind, sv, lv]] w fun x w' => x = .returned (.bool e.nn) ∧ Below w.heap.size w w' := by
  have hc := fun w' (hb : Below w.heap.size w w') => hasNone_all e.size e sv lv w' (Nat.le_refl _) hf (hr.moved hb)
  obtain ⟨⟨o1, q1, rfl⟩, ⟨o2, q2, rfl⟩⟩ := hr.form
  have HC := Lib.hid hc
  obtain ⟨a, ha⟩ : ∃ a, a = e.set.length := ⟨_, rfl⟩
  obtain ⟨b, hb⟩ : ∃ b, b = e.parts.length := ⟨_, rfl⟩
  rw [← ha, ← hb] at HC ⊢
  clear hc hr hf ha hb
  go_enter Tryz.func33, Tryz.ntmps33
  go_wp2_with fail
  refine (HC.out _ (bel_new (Below.refl _ _) _)).mono ?_
  rintro x w2 ⟨rfl, hb2⟩
  have HB2 := Lib.hid (bel_then (bel_new (Below.refl w.heap.size w) _) hb2)
  clear hb2
  go_wp2_with fail
  go_ret
  exact ⟨rfl, HB2.out⟩

set_option maxHeartbeats 4000000 in
set_option maxRecDepth 100000 in
theorem prTokn_index (n : Nat) (o : Option Addr) (cap : Nat) (c0 c1 c2 c3 c4 c5 : Nat → Value) (St : Nat → World → Prop) (Fin : Nat → World → Prop) (w : World) (hn : n ≤ 1000000)
    (hel : ∀ i, i < n → ∃ b off, o = some ⟨b, off, none⟩ ∧ ∀ w', St i w' → w'.cell? ⟨b, off + i * 6, none⟩ = some (c0 i) ∧ w'.cell? ⟨b, off + i * 6 + 1, none⟩ = some (c1 i) ∧ w'.cell? ⟨b, off + i * 6 + 2, none⟩ = some (c2 i) ∧ w'.cell? ⟨b, off + i * 6 + 3, none⟩ = some (c3 i) ∧ w'.cell? ⟨b, off + i * 6 + 4, none⟩ = some (c4 i) ∧ w'.cell? ⟨b, off + i * 6 + 5, none⟩ = some (c5 i))
    (hf : ∀ i w', i < n → St i w' → Calls Tryz.prog 33 #[.agg #[c0 i, c1 i, c2 i, c3 i, c4 i, c5 i]] w' fun e w'' => (e = .returned (.bool true) ∧ Fin i w'') ∨ (e = .returned (.bool false) ∧ St (i + 1) w''))
    (h0 : St 0 w) :
    Calls Tryz.prog 72 #[.slice o n cap, .func (Fn.func 33) #[] #[]] w fun e w' => (∃ i : Nat, i < n ∧ e = .returned (.int .i64 i) ∧ Fin i w') ∨ (e = .returned (.int .i64 (-1)) ∧ St n w') := by
  have HEL := Lib.hid hel
  have HF := Lib.hid hf
  clear hel hf
  go_enter Tryz.func72, Tryz.ntmps72
  go_wp2_with fail
  go_loopg [8] n (fun g i wx => ∃ k : Nat, k + g = n ∧ i = .int .i64 k ∧ St k wx)
  case atStart => exact ⟨0, by omega, rfl, h0⟩
  case round =>
    obtain ⟨k, hkg, rfl, hSt⟩ := hrel
    obtain ⟨wo, rfl⟩ : ∃ wo : World, wo = wr := ⟨_, rfl⟩
    cases gk with
    | zero =>
      obtain rfl : k = n := by omega
      have hd : decide ((k : Int) < (k : Int)) = false := by simp
      have HS := Lib.hid hSt
      clear hSt
      go_wp2
      go_ret
      exact .inr ⟨rfl, HS.out⟩
    | succ g =>
      have hk : k < n := by omega
      have hd : decide ((k : Int) < (n : Int)) = true := by simp; omega
      have hk1 : (0 : Int) ≤ (k : Int) := by omega
      have hk2 : (k : Int) < (n : Int) := by omega
      have hk9 : (k : Int) ≤ 1000000 := by omega
      obtain ⟨b, off, rfl, hcell⟩ := HEL.out k hk
      obtain ⟨k0, k1, k2, k3, k4, k5⟩ := hcell wo hSt
      have hc := HF.out k wo hk hSt
      obtain ⟨d0, hd0⟩ : ∃ d, d = c0 k := ⟨_, rfl⟩
      rw [← hd0] at k0 hc
      clear hd0
      obtain ⟨d1, hd1⟩ : ∃ d, d = c1 k := ⟨_, rfl⟩
      rw [← hd1] at k1 hc
      clear hd1
      obtain ⟨d2, hd2⟩ : ∃ d, d = c2 k := ⟨_, rfl⟩
      rw [← hd2] at k2 hc
      clear hd2
      obtain ⟨d3, hd3⟩ : ∃ d, d = c3 k := ⟨_, rfl⟩
      rw [← hd3] at k3 hc
      clear hd3
      obtain ⟨d4, hd4⟩ : ∃ d, d = c4 k := ⟨_, rfl⟩
      rw [← hd4] at k4 hc
      clear hd4
      obtain ⟨d5, hd5⟩ : ∃ d, d = c5 k := ⟨_, rfl⟩
      rw [← hd5] at k5 hc
      clear hd5
      have HC := Lib.hid hc
      clear hcell hSt hc
      go_wp2_with fail
      refine HC.out.mono ?_
      rintro e w2 (⟨rfl, hfin⟩ | ⟨rfl, hst⟩)
      · have HX := Lib.hid hfin
        clear hfin
        go_wp2
        go_ret
        exact .inl ⟨k, hk, rfl, HX.out⟩
      · have HX := Lib.hid hst
        clear hst
        go_wp2
        go_roundg g
        case measure => omega
        case rel => exact ⟨k + 1, by omega, by go_num, HX.out⟩

set_option maxHeartbeats 4000000 in
set_option maxRecDepth 100000 in
theorem prTokn_contains (n : Nat) (o : Option Addr) (cap : Nat) (c0 c1 c2 c3 c4 c5 : Nat → Value) (St : Nat → World → Prop) (Fin : Nat → World → Prop) (w : World) (hn : n ≤ 1000000)
    (hel : ∀ i, i < n → ∃ b off, o = some ⟨b, off, none⟩ ∧ ∀ w', St i w' → w'.cell? ⟨b, off + i * 6, none⟩ = some (c0 i) ∧ w'.cell? ⟨b, off + i * 6 + 1, none⟩ = some (c1 i) ∧ w'.cell? ⟨b, off + i * 6 + 2, none⟩ = some (c2 i) ∧ w'.cell? ⟨b, off + i * 6 + 3, none⟩ = some (c3 i) ∧ w'.cell? ⟨b, off + i * 6 + 4, none⟩ = some (c4 i) ∧ w'.cell? ⟨b, off + i * 6 + 5, none⟩ = some (c5 i))
    (hf : ∀ i w', i < n → St i w' → Calls Tryz.prog 33 #[.agg #[c0 i, c1 i, c2 i, c3 i, c4 i, c5 i]] w' fun e w'' => (e = .returned (.bool true) ∧ Fin i w'') ∨ (e = .returned (.bool false) ∧ St (i + 1) w''))
    (h0 : St 0 w) :
    Calls Tryz.prog 32 #[.slice o n cap, .func (Fn.func 33) #[] #[]] w fun e w' => (∃ i : Nat, i < n ∧ e = .returned (.bool true) ∧ Fin i w') ∨ (e = .returned (.bool false) ∧ St n w') := by
  have hc := prTokn_index n o cap c0 c1 c2 c3 c4 c5 St Fin w hn hel hf h0
  have HC := Lib.hid hc
  clear hc hf hel
  go_enter Tryz.func32, Tryz.ntmps32
  go_wp2_with fail
  refine HC.out.mono ?_
  rintro e w2 (⟨i, hi, rfl, hfin⟩ | ⟨rfl, hst⟩)
  · have HX := Lib.hid hfin
    have hi0 : decide ((0 : Int) ≤ (i : Int)) = true := by simp
    have hi9 : (i : Int) ≤ 1000000 := by omega
    clear hfin
    go_wp2
    go_ret
    exact .inl ⟨i, hi, rfl, HX.out⟩
  · have HX := Lib.hid hst
    clear hst
    go_wp2
    go_ret
    exact .inr ⟨rfl, HX.out⟩

def nnT (T : List TK) : Bool := T.any fun t => t.re.nn
theorem tokNone_any (T : List TK) (v : Value) (w : World) (hT : TksAre w v T) (hTl : T.length ≤ 1000) (hf : TFit T) :
    Calls Tryz.prog 32 #[v, .func (Fn.func 33) #[] #[]] w fun x w' => x = .returned (.bool (nnT T)) ∧ Below w.heap.size w w' := by
  obtain ⟨o, cap, nm, kd, cl, rk, so, sn, sc, lo, ln, lc, rfl, hall⟩ := hT.all
  refine (prTokn_contains T.length o cap (fun i => .string (nm i)) (fun i => .int .i64 (kd i)) (fun i => .int .i64 (cl i)) (fun i => .int .i64 (rk i)) (fun i => .slice (so i) (sn i) (sc i)) (fun i => .slice (lo i) (ln i) (lc i))
        (fun i w'' => Below w.heap.size w w'' ∧ ∀ j, j < i → ∀ t, T[j]? = some t → t.re.nn = false)
        (fun i w'' => Below w.heap.size w w'' ∧ ∃ t, T[i]? = some t ∧ t.re.nn = true)
        w (by omega) (fun i hi => by
          obtain ⟨_, _, _, _, _, b, off, rfl, hbl, k0, k1, k2, k3, k4, k5⟩ := hall i T[i] (List.getElem?_eq_getElem hi)
          refine ⟨b, off, rfl, fun w'' hSt => ?_⟩
          exact ⟨(hSt.1.cell hbl).trans k0, (hSt.1.cell hbl).trans k1, (hSt.1.cell hbl).trans k2, (hSt.1.cell hbl).trans k3, (hSt.1.cell hbl).trans k4, (hSt.1.cell hbl).trans k5⟩) (fun i w'' hi hSt => by
          obtain ⟨hb1, hno⟩ := hSt
          obtain ⟨_, _, _, hk, hre, _⟩ := hall i T[i] (List.getElem?_eq_getElem hi)
          have := src1_any (nm i) (kd i) (cl i) T[i].re _ _ w'' (hf i _ (List.getElem?_eq_getElem hi)).2 (hre.moved hb1)
          rw [← hk] at this
          refine this.mono ?_
          rintro x w4 ⟨rfl, hb4⟩
          cases hn : T[i].re.nn with
          | true => exact .inl ⟨rfl, bel_then hb1 hb4, T[i], List.getElem?_eq_getElem hi, hn⟩
          | false =>
            refine .inr ⟨rfl, bel_then hb1 hb4, fun j hj p' hp' => ?_⟩
            rcases Nat.lt_or_ge j i with h | h
            · exact hno j h p' hp'
            · obtain rfl : j = i := by omega
              rw [List.getElem?_eq_getElem hi] at hp'; cases hp'; exact hn) ⟨Below.refl _ _, fun j hj => by omega⟩).mono ?_
  rintro x w5 (⟨i, hi, rfl, hb5, p, hp, hn⟩ | ⟨rfl, hb5, hno⟩)
  · refine ⟨?_, hb5⟩
    have : nnT T = true := by unfold nnT; rw [List.any_eq_true]; exact ⟨p, List.mem_of_getElem? hp, hn⟩
    rw [this]
  · refine ⟨?_, hb5⟩
    have : nnT T = false := by
      unfold nnT
      rw [List.any_eq_false]
      intro t ht
      obtain ⟨i, hi, rfl⟩ := List.getElem_of_mem ht
      rw [hno i hi _ (List.getElem?_eq_getElem hi)]
      decide
    rw [this]
end Go.Proofs.YtbanmggkfpnalaaGreatDoor

namespace Go.Proofs.YtbanmggkfpnalaaGreatDoor
open Go.RowKit Ru

theorem orN_inv {a b : Option Int} (h : orE a b = none) : a = none ∧ b = none := by
  cases a with
  | none => exact ⟨rfl, h⟩
  | some x => cases h
theorem patN_inv {T : List TK} {p : PT} (h : patE T p = none) : p.shp = true ∧ patEL T p.parts = none := by
  rw [patE_eq] at h
  cases hs : p.shp with
  | false => rw [hs, if_pos rfl] at h; cases h
  | true => rw [hs, if_neg (by simp)] at h; exact ⟨rfl, (orN_inv h).2⟩
theorem patNL_inv {T : List TK} : ∀ {l : List PT}, patEL T l = none → ∀ p ∈ l, patE T p = none := by
  intro l
  induction l with
  | nil => intro _ p hp; cases hp
  | cons a l ih =>
    intro h p hp
    rw [patEL_cons] at h
    rcases List.mem_cons.1 hp with rfl | h1
    · exact (orN_inv h).1
    · exact ih (orN_inv h).2 p h1
theorem tokE_zero {T : List TK} {i : Nat} {t : TK} : ∀ c, tokE T i t = some c → c ≠ 0 := by
  intro c h
  unfold tokE at h
  (repeat' split at h) <;> first | (cases h; decide) | cases h
theorem toksE_zero {T : List TK} : ∀ (l : List TK) (i : Nat) (e : Int × Int), toksE T i l = some e → e.1 ≠ 0 := by
  intro l
  induction l with
  | nil => intro i e h; cases h
  | cons t l ih =>
    intro i e h
    rw [toksE_cons] at h
    cases hc : tokE T i t with
    | some c => rw [hc] at h; cases h; exact tokE_zero c hc
    | none => rw [hc] at h; exact ih _ e h
theorem rulesE_zero {T : List TK} : ∀ (l : List RU) (i : Nat) (e : Int × Int), rulesE T i l = some e → e.1 ≠ 0 := by
  intro l
  induction l with
  | nil => intro i e h; cases h
  | cons t l ih =>
    intro i e h
    rw [rulesE_cons] at h
    cases hc : ruleE T t with
    | some c => rw [hc] at h; cases h; exact ruleE_ne T t c hc
    | none => rw [hc] at h; exact ih _ e h
theorem chk_inv {T : List TK} {R : List RU} (h : (chkE T R).1 = 0) : (1 ≤ T.length ∧ T.length ≤ 16) ∧ toksE T 0 T = none ∧ R.length ≤ 8 ∧ rulesE T 0 R = none := by
  unfold chkE at h
  split at h
  · simp at h
  · rename_i h1
    cases ht : toksE T 0 T with
    | some e => rw [ht] at h; exact absurd h (toksE_zero T 0 e ht)
    | none =>
      rw [ht] at h
      simp only at h
      split at h
      · simp at h
      · rename_i h2
        cases hr : rulesE T 0 R with
        | some e => rw [hr] at h; exact absurd h (rulesE_zero R 0 e hr)
        | none => exact ⟨by omega, rfl, by omega, rfl⟩
theorem toksE_inv {T : List TK} : ∀ (l : List TK) (i : Nat), toksE T i l = none → ∀ t ∈ l, ∃ j, tokE T j t = none := by
  intro l
  induction l with
  | nil => intro i _ t ht; simp at ht
  | cons a l ih =>
    intro i h t ht
    rw [toksE_cons] at h
    cases hc : tokE T i a with
    | some c => rw [hc] at h; cases h
    | none =>
      rw [hc] at h
      rcases List.mem_cons.1 ht with rfl | ht
      · exact ⟨i, hc⟩
      · exact ih _ h t ht
theorem rulesE_inv {T : List TK} : ∀ (l : List RU) (i : Nat), rulesE T i l = none → ∀ r ∈ l, ruleE T r = none := by
  intro l
  induction l with
  | nil => intro i _ t ht; simp at ht
  | cons a l ih =>
    intro i h t ht
    rw [rulesE_cons] at h
    cases hc : ruleE T a with
    | some c => rw [hc] at h; cases h
    | none =>
      rw [hc] at h
      rcases List.mem_cons.1 ht with rfl | ht
      · exact hc
      · exact ih _ h t ht
theorem namB_size {s : ByteArray} (h : namB s = true) : s.size ≤ 12 := by
  unfold namB at h
  simp only [Bool.and_eq_true, decide_eq_true_eq] at h
  exact h.2.1
theorem tok_ok {T : List TK} {t : TK} {i : Nat} (h : tokE T i t = none) : TkOk t := by
  unfold tokE at h
  (repeat' split at h) <;> try (cases h; done)
  rename_i h1 h2 h3 h4
  have h1' := Classical.not_not.1 h1
  have h3' := Classical.not_not.1 h3
  have hm := may_prt h3'.2
  exact ⟨by have := namB_size h1'.1; omega, Classical.not_not.1 h2, h3'.1, hm.2, hm.1⟩
theorem stepsE_inv {T : List TK} {free : Bool} : ∀ (l : List ST) (i : Nat), stepsE T free i l = none → ∀ s ∈ l, ∃ b, stepE T b s = none := by
  intro l
  induction l with
  | nil => intro i _ t ht; simp at ht
  | cons a l ih =>
    intro i h t ht
    rw [stepsE_cons] at h
    have := orN_inv h
    rcases List.mem_cons.1 ht with rfl | ht
    · exact ⟨_, this.1⟩
    · exact ih _ this.2 t ht
theorem namesE_inv {T : List TK} {kind : Int} : ∀ (l seen : List ByteArray), namesE T kind seen l = none → ∀ x ∈ l, ∃ t ∈ T, t.name = x := by
  intro l
  induction l with
  | nil => intro seen _ x hx; simp at hx
  | cons a l ih =>
    intro seen h x hx
    rw [namesE_cons] at h
    split at h
    · cases h
    · rename_i h1
      split at h
      · cases h
      · rcases List.mem_cons.1 hx with rfl | hx
        · obtain ⟨i, hi, hlt⟩ := findB_lt (T := T) (s := x) (fun h => h1 (.inl h))
          unfold findB at hi
          cases hf : T.findIdx? (fun t => decide (t.name = x)) with
          | none => rw [hf] at hi; simp at hi
          | some j =>
            obtain ⟨hj, hj2, _⟩ := List.findIdx?_eq_some_iff_getElem.1 hf
            exact ⟨T[j], List.getElem_mem hj, by simpa using hj2⟩
        · exact ih _ h x hx
def TShort (T : List TK) : Prop := ∀ t ∈ T, t.name.size ≤ 1000
theorem names_short {T : List TK} (hT : TShort T) {kind : Int} {l : List ByteArray} (h : namesE T kind [] l = none) (hl : l.length ≤ 1000) : Shorts l :=
  ⟨hl, fun x hx => by obtain ⟨t, ht, rfl⟩ := namesE_inv l [] h x hx; exact hT t ht⟩
theorem shorts_nil {l : List ByteArray} (h : l.length = 0) : Shorts l := by
  rw [List.eq_nil_of_length_eq_zero h]; exact ⟨by simp, fun x hx => by simp at hx⟩
theorem pat_okt {T : List TK} (hT : TShort T) : ∀ (N : Nat) (p : PT), p.size ≤ N → p.Fit → patE T p = none → p.Okt := by
  intro N
  induction N with
  | zero => intro p h; have := p.size_pos; omega
  | succ N ih =>
    intro p hs hf h
    obtain ⟨h1, h2⟩ := patN_inv h
    have hn : nodeE T p.kind p.names p.ends = none := by
      rw [patE_eq, h1] at h
      simp at h
      exact (orN_inv h).1
    have hl := hf.lens
    have hkids : ∀ (i : Nat) (c : PT), p.parts[i]? = some c → c.Okt := fun i c hc => ih c (by have := PT.size_part hc; omega) (hf.part hc) (patNL_inv h2 c (List.mem_of_getElem? hc))
    have hsh := h1
    rw [gramShp, decide_eq_true_iff] at hsh
    have hns : Shorts p.names ∧ Shorts p.ends := by
      unfold nodeE at hn
      by_cases k2 : p.kind = 2
      · rw [if_pos k2] at hn
        exact ⟨names_short hT hn hl.1, shorts_nil (by omega)⟩
      · rw [if_neg k2] at hn
        by_cases k3 : p.kind = 3
        · rw [if_pos k3] at hn
          exact ⟨names_short hT (orN_inv hn).1 hl.1, names_short hT (orN_inv hn).2 hl.2.1⟩
        · exact ⟨shorts_nil (by omega), shorts_nil (by omega)⟩
    cases p with
    | mk k ns es l => exact .mk k ns es l h1 hns.1 hns.2 hkids
theorem step_ok {T : List TK} (hT : TShort T) {b : Bool} {s : ST} (h : stepE T b s = none) (hc : s.calls.length ≤ 1000) (hf : s.p.Fit) : StOk s := by
  unfold stepE at h
  split at h
  · cases h
  · obtain ⟨h1, h2⟩ := orN_inv h
    split at h2
    · cases h2
    · rename_i h3
      have hb : s.p.fitsB = true := by simpa using h3
      exact ⟨names_short hT h1 hc, pat_okt hT _ _ (Nat.le_refl _) hf h2, ((PT.fits_iff s.p).1 hb).1⟩
theorem rule_ok {T : List TK} (hT : TShort T) {r : RU} (h : ruleE T r = none) (hf : SFit r.steps) : RuOk r := by
  unfold ruleE at h
  split at h
  · cases h
  · rename_i h1
    have h1' := Classical.not_not.1 h1
    refine ⟨h1'.1, by omega, fun s hs => ?_⟩
    obtain ⟨b, hb⟩ := stepsE_inv _ _ h s hs
    obtain ⟨i, hi, rfl⟩ := List.getElem_of_mem hs
    have := hf i _ (List.getElem?_eq_getElem hi)
    exact step_ok hT hb this.1 this.2
theorem chk_ok {T : List TK} {R : List RU} (h : (chkE T R).1 = 0) (hR : RFit R) : (T.length ≤ 16 ∧ ∀ t ∈ T, TkOk t) ∧ R.length ≤ 8 ∧ ∀ r ∈ R, RuOk r := by
  obtain ⟨h1, h2, h3, h4⟩ := chk_inv h
  have ht : ∀ t ∈ T, TkOk t := fun t ht => by obtain ⟨j, hj⟩ := toksE_inv T 0 h2 t ht; exact tok_ok hj
  refine ⟨⟨h1.2, ht⟩, h3, fun r hr => ?_⟩
  obtain ⟨i, hi, rfl⟩ := List.getElem_of_mem hr
  exact rule_ok (fun t htm => (ht t htm).nm) (rulesE_inv R 0 h4 _ hr) (hR i _ (List.getElem?_eq_getElem hi)).2
def srcB (T : List TK) (R : List RU) : ByteArray × Int :=
  if (chkE T R).1 ≠ 0 then (⟨#[]⟩, (chkE T R).1) else if nnT T = true then (⟨#[]⟩, 1)
  else if 4000 < (catB (T.map tokB) ++ catB (R.map ruleB)).size then (⟨#[]⟩, 6) else (catB (T.map tokB) ++ catB (R.map ruleB), 0)
end Go.Proofs.YtbanmggkfpnalaaGreatDoor

namespace Go.Proofs.YtbanmggkfpnalaaGreatDoor
open Go.RowKit Ru

theorem joinToks_any (l : List TK) (q : Nat) (v : Value) (w : World) (hok : ∀ s ∈ l, TkOk s) (hl : l.length ≤ 100) (hv : TksAre w v l) (hT : TZ w)
    (hq0 : w.heap[q]? = some (.cells #[.string ⟨#[]⟩] 9 (0, 0))) (hq1 : w.heap[q + 1]? = some (.cells #[.func (Fn.func 36) #[] #[]] 74 (0, 0))) :
    Calls Tryz.prog 73 #[v, .pointer (some ⟨q + 1, 0, none⟩), .pointer (some ⟨q, 0, none⟩)] w fun e w' => e = .returned (.string (catB (l.map tokB))) ∧ Below w.heap.size w w' := by
  obtain ⟨o, cap, nm, kd, cl, rk, so, sn, sc, lo, ln, lc, rfl, hall⟩ := hv.all
  have hsz : (catB (l.map tokB)).size ≤ 140737488355328 := by
    have := catB_le 40000 (l.map tokB) (fun y hy => by
      obtain ⟨x, hx, rfl⟩ := List.mem_map.1 hy
      exact tokB_size (hok x hx))
    rw [List.length_map] at this
    have : 40000 * l.length ≤ 40000 * 100 := Nat.mul_le_mul_left _ hl
    omega
  have hr : (List.range l.length).map (fun i => (l.map tokB).getD i ⟨#[]⟩) = l.map tokB := by
    have := range_getD (⟨#[]⟩ : ByteArray) (l.map tokB)
    rwa [List.length_map] at this
  have key := joinedT_any q l.length o cap nm kd cl rk so sn sc lo ln lc (fun i => (l.map tokB).getD i ⟨#[]⟩) w (by omega) (fun i hi => by
      obtain ⟨_, _, _, _, _, b, off, ho, hb, c0, c1, c2, c3, c4, c5⟩ := hall i l[i] (List.getElem?_eq_getElem hi)
      exact ⟨b, off, ho, hb, c0, c1, c2, c3, c4, c5⟩) hq0 hq1 (fun i hi w' hb => by
      obtain ⟨r1, r2, r3, r4, p1, _⟩ := hall i l[i] (List.getElem?_eq_getElem hi)
      have := prTok_any l[i] _ _ w' (hok _ (List.getElem_mem hi)) (p1.moved hb) (hT.moved hb)
      rw [← r1, ← r2, ← r3, ← r4] at this
      have e : (l.map tokB).getD i ⟨#[]⟩ = tokB l[i] := by simp [List.getD, hi]
      simp only [e]
      exact this) (by rw [hr]; exact hsz)
  rw [hr] at key
  exact key
theorem joinRules_any (l : List RU) (q : Nat) (v : Value) (w : World) (hok : ∀ s ∈ l, RuOk s) (hl : l.length ≤ 100) (hv : RusAre w v l)
    (hq0 : w.heap[q]? = some (.cells #[.string ⟨#[]⟩] 9 (0, 0))) (hq1 : w.heap[q + 1]? = some (.cells #[.func (Fn.func 38) #[] #[]] 77 (0, 0))) :
    Calls Tryz.prog 75 #[v, .pointer (some ⟨q + 1, 0, none⟩), .pointer (some ⟨q, 0, none⟩)] w fun e w' => e = .returned (.string (catB (l.map ruleB))) ∧ Below w.heap.size w w' := by
  obtain ⟨o, cap, cl, fr, so, sn, sc, rfl, hall⟩ := hv.all
  have hsz : (catB (l.map ruleB)).size ≤ 140737488355328 := by
    have := catB_le 19000000020 (l.map ruleB) (fun y hy => by
      obtain ⟨x, hx, rfl⟩ := List.mem_map.1 hy
      exact ruleB_size (hok x hx))
    rw [List.length_map] at this
    have : 19000000020 * l.length ≤ 19000000020 * 100 := Nat.mul_le_mul_left _ hl
    omega
  have hr : (List.range l.length).map (fun i => (l.map ruleB).getD i ⟨#[]⟩) = l.map ruleB := by
    have := range_getD (⟨#[]⟩ : ByteArray) (l.map ruleB)
    rwa [List.length_map] at this
  have key := joinedU_any q l.length o cap cl fr so sn sc (fun i => (l.map ruleB).getD i ⟨#[]⟩) w (by omega) (fun i hi => by
      obtain ⟨_, _, _, b, off, ho, hb, c0, c1, c2⟩ := hall i l[i] (List.getElem?_eq_getElem hi)
      exact ⟨b, off, ho, hb, c0, c1, c2⟩) hq0 hq1 (fun i hi w' hb => by
      obtain ⟨r1, r2, p1, _⟩ := hall i l[i] (List.getElem?_eq_getElem hi)
      have := prRule_any l[i] _ w' (hok _ (List.getElem_mem hi)) (p1.moved hb)
      rw [← r1, ← r2] at this
      have e : (l.map ruleB).getD i ⟨#[]⟩ = ruleB l[i] := by simp [List.getD, hi]
      simp only [e]
      exact this) (by rw [hr]; exact hsz)
  rw [hr] at key
  exact key
theorem src_sizes {T : List TK} {R : List RU} (h1 : T.length ≤ 16 ∧ ∀ t ∈ T, TkOk t) (h2 : R.length ≤ 8 ∧ ∀ r ∈ R, RuOk r) : (catB (T.map tokB)).size ≤ 700000 ∧ (catB (R.map ruleB)).size ≤ 160000000000 := by
  have a := catB_le 40000 (T.map tokB) (fun y hy => by
    obtain ⟨x, hx, rfl⟩ := List.mem_map.1 hy
    exact tokB_size (h1.2 x hx))
  have b := catB_le 19000000020 (R.map ruleB) (fun y hy => by
    obtain ⟨x, hx, rfl⟩ := List.mem_map.1 hy
    exact ruleB_size (h2.2 x hx))
  rw [List.length_map] at a b
  have c : 40000 * T.length ≤ 40000 * 16 := Nat.mul_le_mul_left _ h1.1
  have d : 19000000020 * R.length ≤ 19000000020 * 8 := Nat.mul_le_mul_left _ h2.1
  omega
set_option maxHeartbeats 8000000 in
set_option maxRecDepth 100000 in
theorem prSource_any (T : List TK) (R : List RU) (tv rv : Value) (w : World) (hT : TksAre w tv T) (hR : RusAre w rv R) (hTl : T.length ≤ 1000) (hRl : R.length ≤ 1000) (hTf : TFit T) (hRf : RFit R) (hZ : TZ w) :
    Calls Tryz.prog 14 #[.agg #[tv, rv]] w fun e w' => e = .returned (.tuple #[.string (srcB T R).1, .int .i64 (srcB T R).2]) ∧ Below w.heap.size w w' := by
  have h1 := fun w' (hb : Below w.heap.size w w') => gchk_any T R tv rv w' (hT.moved hb) (hR.moved hb) hTl hRl hTf hRf
  have h2 := fun w' (hb : Below w.heap.size w w') => tokNone_any T tv w' (hT.moved hb) hTl hTf
  have h3 := fun (h : (chkE T R).1 = 0) q w' (hb : Below w.heap.size w w') => joinToks_any T q tv w' (chk_ok h hRf).1.2 (by have := (chk_ok h hRf).1.1; omega) (hT.moved hb) (hZ.moved hb)
  have h4 := fun (h : (chkE T R).1 = 0) q w' (hb : Below w.heap.size w w') => joinRules_any R q rv w' (chk_ok h hRf).2.2 (by have := (chk_ok h hRf).2.1; omega) (hR.moved hb)
  have hsz := fun (h : (chkE T R).1 = 0) => src_sizes (chk_ok h hRf).1 (chk_ok h hRf).2
  have hs : srcB T R = if (chkE T R).1 ≠ 0 then (⟨#[]⟩, (chkE T R).1) else if nnT T = true then (⟨#[]⟩, 1)
    else if 4000 < (catB (T.map tokB) ++ catB (R.map ruleB)).size then (⟨#[]⟩, 6) else (catB (T.map tokB) ++ catB (R.map ruleB), 0) := rfl
  obtain ⟨o7, c7, nm7, kd7, cl7, rk7, so7, sn7, sc7, lo7, ln7, lc7, rfl, -⟩ := hT.all
  obtain ⟨o9, c9, rfl⟩ := hR.form
  obtain ⟨S, hS⟩ : ∃ S, S = srcB T R := ⟨_, rfl⟩
  obtain ⟨A, hA⟩ : ∃ A, A = catB (T.map tokB) := ⟨_, rfl⟩
  obtain ⟨B, hB⟩ : ∃ A, A = catB (R.map ruleB) := ⟨_, rfl⟩
  obtain ⟨N, hN⟩ : ∃ A, A = nnT T := ⟨_, rfl⟩
  obtain ⟨k, hk⟩ : ∃ A, A = (chkE T R).1 := ⟨_, rfl⟩
  obtain ⟨k2, hk2⟩ : ∃ A, A = (chkE T R).2 := ⟨_, rfl⟩
  obtain ⟨n, hn⟩ : ∃ A, A = T.length := ⟨_, rfl⟩
  obtain ⟨m, hm⟩ : ∃ A, A = R.length := ⟨_, rfl⟩
  rw [← hk, ← hk2, ← hn, ← hm] at h1
  rw [← hN, ← hn] at h2
  rw [← hk, ← hA, ← hn] at h3
  rw [← hk, ← hB, ← hm] at h4
  rw [← hk, ← hA, ← hB] at hsz
  rw [← hS, ← hk, ← hN, ← hA, ← hB] at hs
  rw [← hS, ← hn, ← hm]
  have H1 := Lib.hid h1
  have H2 := Lib.hid h2
  have H3 := Lib.hid h3
  have H4 := Lib.hid h4
  have HS := Lib.hid hs
  have HZ := Lib.hid hsz
  have HJT := Lib.hid (fun w' => mkJoinT_any w')
  have HJU := Lib.hid (fun w' => mkJoinU_any w')
  clear h1 h2 h3 h4 hs hsz hS hA hB hN hk hk2 hn hm hT hR hTl hRl hTf hRf hZ
  by_cases hk0 : k = 0
  case neg =>
    have d : (k != 0) = true := by simpa using hk0
    have HX := Lib.hid (HS.out.trans (if_pos hk0))
    clear HS H2 H3 H4 HZ HJT HJU hk0
    go_enter Tryz.func14, Tryz.ntmps14
    go_wp2_with fail
    refine (H1.out _ (bel_new (Below.refl _ _) _)).mono ?_
    rintro x w2 ⟨rfl, hb2⟩
    have HB2 := Lib.hid (bel_then (bel_new (Below.refl w.heap.size w) _) hb2)
    clear hb2
    go_wp2_with fail
    go_ret2
    exact ⟨by rw [HX.out]; rfl, HB2.out⟩
  subst hk0
  have HS1 := Lib.hid (HS.out.trans (if_neg (by simp)))
  clear HS
  cases N with
  | true =>
    have HX := Lib.hid (HS1.out.trans (if_pos rfl))
    clear HS1 H3 H4 HZ HJT HJU
    go_enter Tryz.func14, Tryz.ntmps14
    go_wp2_with fail
    refine (H1.out _ (bel_new (Below.refl _ _) _)).mono ?_
    rintro x w2 ⟨rfl, hb2⟩
    have HB2 := Lib.hid (bel_then (bel_new (Below.refl w.heap.size w) _) hb2)
    have hbx := box_kept hb2
    have c0 : w2.cell? ⟨w.heap.size, 0, none⟩ = some (.slice o7 n c7) := by simp [World.cell?, hbx]
    clear hb2 hbx
    go_wp2_with fail
    refine (H2.out _ HB2.out).mono ?_
    rintro x w3 ⟨rfl, hb3⟩
    have HB3 := Lib.hid (bel_then HB2.out hb3)
    clear hb3
    go_wp2_with fail
    go_ret2
    exact ⟨by rw [HX.out]; rfl, HB3.out⟩
  | false =>
    have HS2 := Lib.hid (HS1.out.trans (if_neg (by simp)))
    have hz := HZ.out rfl
    have hu0 : ¬ 9223372036854775807 < A.size + B.size := by omega
    clear HS1 HZ hz
    go_enter Tryz.func14, Tryz.ntmps14
    go_wp2_with fail
    refine (H1.out _ (bel_new (Below.refl _ _) _)).mono ?_
    rintro x w2 ⟨rfl, hb2⟩
    have HB2 := Lib.hid (bel_then (bel_new (Below.refl w.heap.size w) _) hb2)
    have hbx := box_kept hb2
    have c0 : w2.cell? ⟨w.heap.size, 0, none⟩ = some (.slice o7 n c7) := by simp [World.cell?, hbx]
    have c1 : w2.cell? ⟨w.heap.size, 1, none⟩ = some (.slice o9 m c9) := by simp [World.cell?, hbx]
    clear hb2 hbx
    go_wp2_with fail
    refine (H2.out _ HB2.out).mono ?_
    rintro x w3 ⟨rfl, hb3⟩
    have HB3 := Lib.hid (bel_then HB2.out hb3)
    have e0 := cell_later hb3 c0
    have e1 := cell_later hb3 c1
    clear hb3 c0 c1
    have JT := Lib.hid (fun k (hb : Below w3.heap.size w3 k) => (HJT.out k).mono (R' := fun e w' => ∃ q, e = .returned (.func (Fn.func 73) #[] #[.pointer (some ⟨q + 1, 0, none⟩), .pointer (some ⟨q, 0, none⟩)]) ∧ Below w3.heap.size w3 w' ∧ w'.heap[q]? = some (.cells #[.string ⟨#[]⟩] 9 (0, 0)) ∧ w'.heap[q + 1]? = some (.cells #[.func (Fn.func 36) #[] #[]] 74 (0, 0))) (by
      rintro x w' ⟨rfl, rfl⟩
      exact ⟨_, rfl, two_world k w3 _ _ hb⟩))
    have JU := Lib.hid (fun k (hb : Below w3.heap.size w3 k) => (HJU.out k).mono (R' := fun e w' => ∃ q, e = .returned (.func (Fn.func 75) #[] #[.pointer (some ⟨q + 1, 0, none⟩), .pointer (some ⟨q, 0, none⟩)]) ∧ Below w3.heap.size w3 w' ∧ w'.heap[q]? = some (.cells #[.string ⟨#[]⟩] 9 (0, 0)) ∧ w'.heap[q + 1]? = some (.cells #[.func (Fn.func 38) #[] #[]] 77 (0, 0))) (by
      rintro x w' ⟨rfl, rfl⟩
      exact ⟨_, rfl, two_world k w3 _ _ hb⟩))
    have CT := Lib.hid (fun q k (hb : Below w3.heap.size w3 k) (x0 : k.heap[q]? = some (.cells #[.string ⟨#[]⟩] 9 (0, 0))) (x1 : k.heap[q + 1]? = some (.cells #[.func (Fn.func 36) #[] #[]] 74 (0, 0))) => (H3.out trivial q k (bel_then HB3.out hb) x0 x1).mono (R' := fun e w' => e = .returned (.string A) ∧ Below w3.heap.size w3 w') (by
      rintro x w' ⟨rfl, h⟩
      exact ⟨rfl, bel_then hb h⟩))
    have CU := Lib.hid (fun q k (hb : Below w3.heap.size w3 k) (x0 : k.heap[q]? = some (.cells #[.string ⟨#[]⟩] 9 (0, 0))) (x1 : k.heap[q + 1]? = some (.cells #[.func (Fn.func 38) #[] #[]] 77 (0, 0))) => (H4.out trivial q k (bel_then HB3.out hb) x0 x1).mono (R' := fun e w' => e = .returned (.string B) ∧ Below w3.heap.size w3 w') (by
      rintro x w' ⟨rfl, h⟩
      exact ⟨rfl, bel_then hb h⟩))
    clear H1 H2 H3 H4 HJT HJU
    go_upto_region 6 with (fail)
    go_region_held3 (fun w' => w'.cell? ⟨w.heap.size, 0, none⟩ = some (.slice o7 n c7) ∧ w'.cell? ⟨w.heap.size, 1, none⟩ = some (.slice o9 m c9))
      (first | trivial | exact ⟨cell_later (w := w3) (by repeat (first | exact Below.refl _ _ | exact hdd | exact hcc | exact hbb | exact haa | refine Below.drew ?_)) e0, cell_later (w := w3) (by repeat (first | exact Below.refl _ _ | exact hdd | exact hcc | exact hbb | exact haa | refine Below.drew ?_)) e1⟩)
      (first
        | (go_at_call 35; refine (JT.out _ (by repeat (first | exact Below.refl _ _ | refine Below.drew ?_))).mono ?_; rintro x wA ⟨qA, rfl, haa, xa0, xa1⟩)
        | (go_at_call 73; refine (CT.out _ _ (by repeat (first | exact haa | refine Below.drew ?_)) (by exact xa0) (by exact xa1)).mono ?_; rintro x wB ⟨rfl, hbb⟩)
        | (go_at_call 37; refine (JU.out _ (by repeat (first | exact hbb | refine Below.drew ?_))).mono ?_; rintro x wC ⟨qC, rfl, hcc, xc0, xc1⟩)
        | (go_at_call 75; refine (CU.out _ _ (by repeat (first | exact hcc | refine Below.drew ?_)) (by exact xc0) (by exact xc1)).mono ?_; rintro x wD ⟨rfl, hdd⟩))
    have hb6 := hdd
    have HB6 := Lib.hid (bel_then HB3.out hb6)
    have hs2 := HS2.out
    have hzz : (A ++ B).size = A.size + B.size := by rw [ByteArray.size_append]
    obtain ⟨Z, hZ⟩ : ∃ Z, Z = A ++ B := ⟨_, rfl⟩
    rw [← hZ] at hs2 hzz ⊢
    have HS3 := Lib.hid hs2
    clear hs2 HS2 hb6 e0 e1 hZ JT JU CT CU hdd haa hbb hcc xa0 xa1 xc0 xc1
    have hzb : Z.size ≤ 9223372036854775807 := by omega
    by_cases hc : 4000 < Z.size
    · have d : decide (4000 < Z.size) = true := by simpa using hc
      have HX := Lib.hid (HS3.out.trans (if_pos hc))
      clear hzz HS3
      go_wp2_with fail
      go_ret2
      exact ⟨by rw [HX.out]; rfl, HB6.out⟩
    · have d : decide (4000 < Z.size) = false := by simpa using hc
      have HX := Lib.hid (HS3.out.trans (if_neg hc))
      clear hzz HS3
      go_wp2_with fail
      go_ret2
      exact ⟨by rw [HX.out]; rfl, HB6.out⟩
end Go.Proofs.YtbanmggkfpnalaaGreatDoor
