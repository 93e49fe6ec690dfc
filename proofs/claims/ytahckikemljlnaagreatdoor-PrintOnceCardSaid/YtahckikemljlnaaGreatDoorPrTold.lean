/- gobolaw14.told. -/
import Derived.Deep.RegionHeld3
import Derived.Deep.CutBlock
import Derived.Test.YtahckikemljlnaaGreatDoorGFit
import Derived.Test.YtahckikemljlnaaGreatDoorPrNone
import Derived.Test.YtahckikemljlnaaGreatDoorGMk0
import Derived.Deep.RegionLaw
import Derived.Test.YtahckikemljlnaaGreatDoorOwn
set_option linter.unusedVariables false
set_option linter.unusedSimpArgs false
namespace Go.Proofs.YtahckikemljlnaaGreatDoor
open Go.RowKit Ru

inductive RE.W2 : RE → Prop
  | mk (k : Int) (s : List (Int × Int)) (l : List RE) (h3 : k = 3 ∨ k = 4 → l.length = 2) (h : ∀ (i : Nat) (e : RE), l[i]? = some e → RE.W2 e) : RE.W2 (.mk k s l)
theorem RE.W2.part {e p : RE} {i : Nat} (h : e.W2) (hp : e.parts[i]? = some p) : p.W2 := by cases h with | mk k s l h3 h => exact h i p hp
theorem RE.W2.two {e : RE} (h : e.W2) (hk : e.kind = 3 ∨ e.kind = 4) : e.parts.length = 2 := by cases h with | mk k s l h3 h => exact h3 hk
end Go.Proofs.YtahckikemljlnaaGreatDoor

namespace Go.Proofs.YtahckikemljlnaaGreatDoor
open Go.RowKit Ru

end Go.Proofs.YtahckikemljlnaaGreatDoor

namespace Go.Proofs.YtahckikemljlnaaGreatDoor
open Go.RowKit Ru

theorem orE_ne {a b : Option Int} (ha : ∀ c, a = some c → c ≠ 0) (hb : ∀ c, b = some c → c ≠ 0) : ∀ c, orE a b = some c → c ≠ 0 := by
  intro c h
  cases a with
  | none => exact hb c (by simpa [orE] using h)
  | some x => exact ha c (by simpa [orE] using h)
theorem rstepE_ne (T : List TK) (pos : Bool) (s : ST) : ∀ c, rstepE T pos s = some c → c ≠ 0 := by
  intro c h
  unfold rstepE at h
  split at h
  · cases h; decide
  · refine orE_ne (namesE_ne _ _) ?_ c h
    intro c h
    split at h
    · cases h; decide
    · exact patE_ne s.p.size s.p (Nat.le_refl _) c h
theorem rstepsE_ne (T : List TK) (free : Bool) : ∀ (l : List ST) (i : Nat) (c : Int), rstepsE T free i l = some c → c ≠ 0 := by
  intro l
  induction l with
  | nil => intro i c h; cases h
  | cons s l ih => intro i c h; rw [rstepsE_cons] at h; exact orE_ne (rstepE_ne T _ s) (ih (i + 1)) c h
theorem ruleE_ne (T : List TK) (r : RU) : ∀ c, ruleE T r = some c → c ≠ 0 := by
  intro c h
  rw [← rruleE_eq] at h
  unfold rruleE at h
  split at h
  · cases h; decide
  · exact rstepsE_ne T r.free _ 0 c h
end Go.Proofs.YtahckikemljlnaaGreatDoor

namespace Go.Proofs.YtahckikemljlnaaGreatDoor
open Go.RowKit Ru

theorem orN_inv {a b : Option Int} (h : orE a b = none) : a = none ∧ b = none := by
  cases a with
  | none => exact ⟨rfl, h⟩
  | some x => cases h
theorem patN_inv {T : List TK} {p : PT} (h : patE T p = none) : p.shp = true ∧ patEL T p.parts = none := by
  rw [patE_eq] at h
  cases hs : p.shp with
  | false => rw [hs, if_pos rfl] at h; cases h
  | true => rw [hs, if_neg (by simp)] at h; exact ⟨rfl, (orN_inv h).2⟩
theorem patNL_inv {T : List TK} : ∀ {l : List PT}, patEL T l = none → ∀ p ∈ l, patE T p = none := by
  intro l
  induction l with
  | nil => intro _ p hp; cases hp
  | cons a l ih =>
    intro h p hp
    rw [patEL_cons] at h
    rcases List.mem_cons.1 hp with rfl | h1
    · exact (orN_inv h).1
    · exact ih (orN_inv h).2 p h1
theorem tokE_zero {T : List TK} {i : Nat} {t : TK} : ∀ c, tokE T i t = some c → c ≠ 0 := by
  intro c h
  unfold tokE at h
  (repeat' split at h) <;> first | (cases h; decide) | cases h
theorem toksE_zero {T : List TK} : ∀ (l : List TK) (i : Nat) (e : Int × Int), toksE T i l = some e → e.1 ≠ 0 := by
  intro l
  induction l with
  | nil => intro i e h; cases h
  | cons t l ih =>
    intro i e h
    rw [toksE_cons] at h
    cases hc : tokE T i t with
    | some c => rw [hc] at h; cases h; exact tokE_zero c hc
    | none => rw [hc] at h; exact ih _ e h
theorem rulesE_zero {T : List TK} : ∀ (l : List RU) (i : Nat) (e : Int × Int), rulesE T i l = some e → e.1 ≠ 0 := by
  intro l
  induction l with
  | nil => intro i e h; cases h
  | cons t l ih =>
    intro i e h
    rw [rulesE_cons] at h
    cases hc : ruleE T t with
    | some c => rw [hc] at h; cases h; exact ruleE_ne T t c hc
    | none => rw [hc] at h; exact ih _ e h
theorem chk_inv {T : List TK} {R : List RU} (h : (chkE T R).1 = 0) : (1 ≤ T.length ∧ T.length ≤ 16) ∧ toksE T 0 T = none ∧ R.length ≤ 8 ∧ rulesE T 0 R = none := by
  unfold chkE at h
  split at h
  · simp at h
  · rename_i h1
    cases ht : toksE T 0 T with
    | some e => rw [ht] at h; exact absurd h (toksE_zero T 0 e ht)
    | none =>
      rw [ht] at h
      simp only at h
      split at h
      · simp at h
      · rename_i h2
        cases hr : rulesE T 0 R with
        | some e => rw [hr] at h; exact absurd h (rulesE_zero R 0 e hr)
        | none => exact ⟨by omega, rfl, by omega, rfl⟩
theorem toksE_inv {T : List TK} : ∀ (l : List TK) (i : Nat), toksE T i l = none → ∀ t ∈ l, ∃ j, tokE T j t = none := by
  intro l
  induction l with
  | nil => intro i _ t ht; simp at ht
  | cons a l ih =>
    intro i h t ht
    rw [toksE_cons] at h
    cases hc : tokE T i a with
    | some c => rw [hc] at h; cases h
    | none =>
      rw [hc] at h
      rcases List.mem_cons.1 ht with rfl | ht
      · exact ⟨i, hc⟩
      · exact ih _ h t ht
theorem rulesE_inv {T : List TK} : ∀ (l : List RU) (i : Nat), rulesE T i l = none → ∀ r ∈ l, ruleE T r = none := by
  intro l
  induction l with
  | nil => intro i _ t ht; simp at ht
  | cons a l ih =>
    intro i h t ht
    rw [rulesE_cons] at h
    cases hc : ruleE T a with
    | some c => rw [hc] at h; cases h
    | none =>
      rw [hc] at h
      rcases List.mem_cons.1 ht with rfl | ht
      · exact hc
      · exact ih _ h t ht
theorem namB_size {s : ByteArray} (h : namB s = true) : s.size ≤ 12 := by
  unfold namB at h
  simp only [Bool.and_eq_true, decide_eq_true_eq] at h
  exact h.2.1
theorem tok_ok {T : List TK} {t : TK} {i : Nat} (h : tokE T i t = none) : TkOk t := by
  unfold tokE at h
  (repeat' split at h) <;> try (cases h; done)
  rename_i h1 h2 h3 h4
  have h1' := Classical.not_not.1 h1
  have h3' := Classical.not_not.1 h3
  have hm := may_prt h3'.2
  exact ⟨by have := namB_size h1'.1; omega, Classical.not_not.1 h2, h3'.1, hm.2, hm.1⟩
theorem stepsE_inv {T : List TK} {free : Bool} : ∀ (l : List ST) (i : Nat), stepsE T free i l = none → ∀ s ∈ l, ∃ b, stepE T b s = none := by
  intro l
  induction l with
  | nil => intro i _ t ht; simp at ht
  | cons a l ih =>
    intro i h t ht
    rw [stepsE_cons] at h
    have := orN_inv h
    rcases List.mem_cons.1 ht with rfl | ht
    · exact ⟨_, this.1⟩
    · exact ih _ this.2 t ht
theorem namesE_inv {T : List TK} {kind : Int} : ∀ (l seen : List ByteArray), namesE T kind seen l = none → ∀ x ∈ l, ∃ t ∈ T, t.name = x := by
  intro l
  induction l with
  | nil => intro seen _ x hx; simp at hx
  | cons a l ih =>
    intro seen h x hx
    rw [namesE_cons] at h
    split at h
    · cases h
    · rename_i h1
      split at h
      · cases h
      · rcases List.mem_cons.1 hx with rfl | hx
        · obtain ⟨i, hi, hlt⟩ := findB_lt (T := T) (s := x) (fun h => h1 (.inl h))
          unfold findB at hi
          cases hf : T.findIdx? (fun t => decide (t.name = x)) with
          | none => rw [hf] at hi; simp at hi
          | some j =>
            obtain ⟨hj, hj2, _⟩ := List.findIdx?_eq_some_iff_getElem.1 hf
            exact ⟨T[j], List.getElem_mem hj, by simpa using hj2⟩
        · exact ih _ h x hx
def TShort (T : List TK) : Prop := ∀ t ∈ T, t.name.size ≤ 1000
theorem names_short {T : List TK} (hT : TShort T) {kind : Int} {l : List ByteArray} (h : namesE T kind [] l = none) (hl : l.length ≤ 1000) : Shorts l :=
  ⟨hl, fun x hx => by obtain ⟨t, ht, rfl⟩ := namesE_inv l [] h x hx; exact hT t ht⟩
theorem shorts_nil {l : List ByteArray} (h : l.length = 0) : Shorts l := by
  rw [List.eq_nil_of_length_eq_zero h]; exact ⟨by simp, fun x hx => by simp at hx⟩
theorem pat_okt {T : List TK} (hT : TShort T) : ∀ (N : Nat) (p : PT), p.size ≤ N → p.Fit → patE T p = none → p.Okt := by
  intro N
  induction N with
  | zero => intro p h; have := p.size_pos; omega
  | succ N ih =>
    intro p hs hf h
    obtain ⟨h1, h2⟩ := patN_inv h
    have hn : nodeE T p.kind p.names p.ends = none := by
      rw [patE_eq, h1] at h
      simp at h
      exact (orN_inv h).1
    have hl := hf.lens
    have hkids : ∀ (i : Nat) (c : PT), p.parts[i]? = some c → c.Okt := fun i c hc => ih c (by have := PT.size_part hc; omega) (hf.part hc) (patNL_inv h2 c (List.mem_of_getElem? hc))
    have hsh := h1
    rw [gramShp, decide_eq_true_iff] at hsh
    have hns : Shorts p.names ∧ Shorts p.ends := by
      unfold nodeE at hn
      by_cases k2 : p.kind = 2
      · rw [if_pos k2] at hn
        exact ⟨names_short hT hn hl.1, shorts_nil (by omega)⟩
      · rw [if_neg k2] at hn
        by_cases k3 : p.kind = 3
        · rw [if_pos k3] at hn
          exact ⟨names_short hT (orN_inv hn).1 hl.1, names_short hT (orN_inv hn).2 hl.2.1⟩
        · exact ⟨shorts_nil (by omega), shorts_nil (by omega)⟩
    cases p with
    | mk k ns es l => exact .mk k ns es l h1 hns.1 hns.2 hkids
theorem step_ok {T : List TK} (hT : TShort T) {b : Bool} {s : ST} (h : stepE T b s = none) (hc : s.calls.length ≤ 1000) (hf : s.p.Fit) : StOk s := by
  unfold stepE at h
  split at h
  · cases h
  · obtain ⟨h1, h2⟩ := orN_inv h
    split at h2
    · cases h2
    · rename_i h3
      have hb : s.p.fitsB = true := by simpa using h3
      exact ⟨names_short hT h1 hc, pat_okt hT _ _ (Nat.le_refl _) hf h2, ((PT.fits_iff s.p).1 hb).1⟩
theorem rule_ok {T : List TK} (hT : TShort T) {r : RU} (h : ruleE T r = none) (hf : SFit r.steps) : RuOk r := by
  unfold ruleE at h
  split at h
  · cases h
  · rename_i h1
    have h1' := Classical.not_not.1 h1
    refine ⟨h1'.1, by omega, fun s hs => ?_⟩
    obtain ⟨b, hb⟩ := stepsE_inv _ _ h s hs
    obtain ⟨i, hi, rfl⟩ := List.getElem_of_mem hs
    have := hf i _ (List.getElem?_eq_getElem hi)
    exact step_ok hT hb this.1 this.2
theorem chk_ok {T : List TK} {R : List RU} (h : (chkE T R).1 = 0) (hR : RFit R) : (T.length ≤ 16 ∧ ∀ t ∈ T, TkOk t) ∧ R.length ≤ 8 ∧ ∀ r ∈ R, RuOk r := by
  obtain ⟨h1, h2, h3, h4⟩ := chk_inv h
  have ht : ∀ t ∈ T, TkOk t := fun t ht => by obtain ⟨j, hj⟩ := toksE_inv T 0 h2 t ht; exact tok_ok hj
  refine ⟨⟨h1.2, ht⟩, h3, fun r hr => ?_⟩
  obtain ⟨i, hi, rfl⟩ := List.getElem_of_mem hr
  exact rule_ok (fun t htm => (ht t htm).nm) (rulesE_inv R 0 h4 _ hr) (hR i _ (List.getElem?_eq_getElem hi)).2
def srcB (T : List TK) (R : List RU) : ByteArray × Int :=
  if (chkE T R).1 ≠ 0 then (⟨#[]⟩, (chkE T R).1) else if nnT T = true then (⟨#[]⟩, 1)
  else if 4000 < (catB (T.map tokB) ++ catB (R.map ruleB)).size then (⟨#[]⟩, 6) else (catB (T.map tokB) ++ catB (R.map ruleB), 0)
end Go.Proofs.YtahckikemljlnaaGreatDoor

namespace Go.Proofs.YtahckikemljlnaaGreatDoor
open Go.RowKit Ru

theorem joinToks_any (l : List TK) (q : Nat) (v : Value) (w : World) (hok : ∀ s ∈ l, TkOk s) (hl : l.length ≤ 100) (hv : TksAre w v l) (hT : TZ w)
    (hq0 : w.heap[q]? = some (.cells #[.string ⟨#[]⟩] 9 (0, 0))) (hq1 : w.heap[q + 1]? = some (.cells #[.func (Fn.func 68) #[] #[]] 112 (0, 0))) :
    Calls Tryz.prog 116 #[v, .pointer (some ⟨q + 1, 0, none⟩), .pointer (some ⟨q, 0, none⟩)] w fun e w' => e = .returned (.string (catB (l.map tokB))) ∧ Below w.heap.size w w' := by
  obtain ⟨o, cap, nm, kd, cl, rk, so, sn, sc, lo, ln, lc, rfl, hall⟩ := hv.all
  have hsz : (catB (l.map tokB)).size ≤ 140737488355328 := by
    have := catB_le 40000 (l.map tokB) (fun y hy => by
      obtain ⟨x, hx, rfl⟩ := List.mem_map.1 hy
      exact tokB_size (hok x hx))
    rw [List.length_map] at this
    have : 40000 * l.length ≤ 40000 * 100 := Nat.mul_le_mul_left _ hl
    omega
  have hr : (List.range l.length).map (fun i => (l.map tokB).getD i ⟨#[]⟩) = l.map tokB := by
    have := range_getD (⟨#[]⟩ : ByteArray) (l.map tokB)
    rwa [List.length_map] at this
  have key := joinedT_any q l.length o cap nm kd cl rk so sn sc lo ln lc (fun i => (l.map tokB).getD i ⟨#[]⟩) w (by omega) (fun i hi => by
      obtain ⟨_, _, _, _, _, b, off, ho, hb, c0, c1, c2, c3, c4, c5⟩ := hall i l[i] (List.getElem?_eq_getElem hi)
      exact ⟨b, off, ho, hb, c0, c1, c2, c3, c4, c5⟩) hq0 hq1 (fun i hi w' hb => by
      obtain ⟨r1, r2, r3, r4, p1, _⟩ := hall i l[i] (List.getElem?_eq_getElem hi)
      have := prTok_any l[i] _ _ w' (hok _ (List.getElem_mem hi)) (p1.moved hb) (hT.moved hb)
      rw [← r1, ← r2, ← r3, ← r4] at this
      have e : (l.map tokB).getD i ⟨#[]⟩ = tokB l[i] := by simp [List.getD, hi]
      simp only [e]
      exact this) (by rw [hr]; exact hsz)
  rw [hr] at key
  exact key
theorem joinRules_any (l : List RU) (q : Nat) (v : Value) (w : World) (hok : ∀ s ∈ l, RuOk s) (hl : l.length ≤ 100) (hv : RusAre w v l)
    (hq0 : w.heap[q]? = some (.cells #[.string ⟨#[]⟩] 9 (0, 0))) (hq1 : w.heap[q + 1]? = some (.cells #[.func (Fn.func 70) #[] #[]] 115 (0, 0))) :
    Calls Tryz.prog 119 #[v, .pointer (some ⟨q + 1, 0, none⟩), .pointer (some ⟨q, 0, none⟩)] w fun e w' => e = .returned (.string (catB (l.map ruleB))) ∧ Below w.heap.size w w' := by
  obtain ⟨o, cap, cl, fr, so, sn, sc, rfl, hall⟩ := hv.all
  have hsz : (catB (l.map ruleB)).size ≤ 140737488355328 := by
    have := catB_le 19000000020 (l.map ruleB) (fun y hy => by
      obtain ⟨x, hx, rfl⟩ := List.mem_map.1 hy
      exact ruleB_size (hok x hx))
    rw [List.length_map] at this
    have : 19000000020 * l.length ≤ 19000000020 * 100 := Nat.mul_le_mul_left _ hl
    omega
  have hr : (List.range l.length).map (fun i => (l.map ruleB).getD i ⟨#[]⟩) = l.map ruleB := by
    have := range_getD (⟨#[]⟩ : ByteArray) (l.map ruleB)
    rwa [List.length_map] at this
  have key := joinedU_any q l.length o cap cl fr so sn sc (fun i => (l.map ruleB).getD i ⟨#[]⟩) w (by omega) (fun i hi => by
      obtain ⟨_, _, _, b, off, ho, hb, c0, c1, c2⟩ := hall i l[i] (List.getElem?_eq_getElem hi)
      exact ⟨b, off, ho, hb, c0, c1, c2⟩) hq0 hq1 (fun i hi w' hb => by
      obtain ⟨r1, r2, p1, _⟩ := hall i l[i] (List.getElem?_eq_getElem hi)
      have := prRule_any l[i] _ w' (hok _ (List.getElem_mem hi)) (p1.moved hb)
      rw [← r1, ← r2] at this
      have e : (l.map ruleB).getD i ⟨#[]⟩ = ruleB l[i] := by simp [List.getD, hi]
      simp only [e]
      exact this) (by rw [hr]; exact hsz)
  rw [hr] at key
  exact key
theorem src_sizes {T : List TK} {R : List RU} (h1 : T.length ≤ 16 ∧ ∀ t ∈ T, TkOk t) (h2 : R.length ≤ 8 ∧ ∀ r ∈ R, RuOk r) : (catB (T.map tokB)).size ≤ 700000 ∧ (catB (R.map ruleB)).size ≤ 160000000000 := by
  have a := catB_le 40000 (T.map tokB) (fun y hy => by
    obtain ⟨x, hx, rfl⟩ := List.mem_map.1 hy
    exact tokB_size (h1.2 x hx))
  have b := catB_le 19000000020 (R.map ruleB) (fun y hy => by
    obtain ⟨x, hx, rfl⟩ := List.mem_map.1 hy
    exact ruleB_size (h2.2 x hx))
  rw [List.length_map] at a b
  have c : 40000 * T.length ≤ 40000 * 16 := Nat.mul_le_mul_left _ h1.1
  have d : 19000000020 * R.length ≤ 19000000020 * 8 := Nat.mul_le_mul_left _ h2.1
  omega
set_option maxHeartbeats 8000000 in
set_option maxRecDepth 100000 in
theorem prSource_any (T : List TK) (R : List RU) (tv rv : Value) (w : World) (hT : TksAre w tv T) (hR : RusAre w rv R) (hTl : T.length ≤ 1000) (hRl : R.length ≤ 1000) (hTf : TFit T) (hRf : RFit R) (hZ : TZ w) :
    Calls Tryz.prog 26 #[.agg #[tv, rv]] w fun e w' => e = .returned (.tuple #[.string (srcB T R).1, .int .i64 (srcB T R).2]) ∧ Below w.heap.size w w' := by
  have h1 := fun w' (hb : Below w.heap.size w w') => gchk_any T R tv rv w' (hT.moved hb) (hR.moved hb) hTl hRl hTf hRf
  have h2 := fun w' (hb : Below w.heap.size w w') => tokNone_any T tv w' (hT.moved hb) hTl hTf
  have h3 := fun (h : (chkE T R).1 = 0) q w' (hb : Below w.heap.size w w') => joinToks_any T q tv w' (chk_ok h hRf).1.2 (by have := (chk_ok h hRf).1.1; omega) (hT.moved hb) (hZ.moved hb)
  have h4 := fun (h : (chkE T R).1 = 0) q w' (hb : Below w.heap.size w w') => joinRules_any R q rv w' (chk_ok h hRf).2.2 (by have := (chk_ok h hRf).2.1; omega) (hR.moved hb)
  have hsz := fun (h : (chkE T R).1 = 0) => src_sizes (chk_ok h hRf).1 (chk_ok h hRf).2
  have hs : srcB T R = if (chkE T R).1 ≠ 0 then (⟨#[]⟩, (chkE T R).1) else if nnT T = true then (⟨#[]⟩, 1)
    else if 4000 < (catB (T.map tokB) ++ catB (R.map ruleB)).size then (⟨#[]⟩, 6) else (catB (T.map tokB) ++ catB (R.map ruleB), 0) := rfl
  obtain ⟨o7, c7, nm7, kd7, cl7, rk7, so7, sn7, sc7, lo7, ln7, lc7, rfl, -⟩ := hT.all
  obtain ⟨o9, c9, rfl⟩ := hR.form
  obtain ⟨S, hS⟩ : ∃ S, S = srcB T R := ⟨_, rfl⟩
  obtain ⟨A, hA⟩ : ∃ A, A = catB (T.map tokB) := ⟨_, rfl⟩
  obtain ⟨B, hB⟩ : ∃ A, A = catB (R.map ruleB) := ⟨_, rfl⟩
  obtain ⟨N, hN⟩ : ∃ A, A = nnT T := ⟨_, rfl⟩
  obtain ⟨k, hk⟩ : ∃ A, A = (chkE T R).1 := ⟨_, rfl⟩
  obtain ⟨k2, hk2⟩ : ∃ A, A = (chkE T R).2 := ⟨_, rfl⟩
  obtain ⟨n, hn⟩ : ∃ A, A = T.length := ⟨_, rfl⟩
  obtain ⟨m, hm⟩ : ∃ A, A = R.length := ⟨_, rfl⟩
  rw [← hk, ← hk2, ← hn, ← hm] at h1
  rw [← hN, ← hn] at h2
  rw [← hk, ← hA, ← hn] at h3
  rw [← hk, ← hB, ← hm] at h4
  rw [← hk, ← hA, ← hB] at hsz
  rw [← hS, ← hk, ← hN, ← hA, ← hB] at hs
  rw [← hS, ← hn, ← hm]
  have H1 := Lib.hid h1
  have H2 := Lib.hid h2
  have H3 := Lib.hid h3
  have H4 := Lib.hid h4
  have HS := Lib.hid hs
  have HZ := Lib.hid hsz
  have HJT := Lib.hid (fun w' => mkJoinT_any w')
  have HJU := Lib.hid (fun w' => mkJoinU_any w')
  clear h1 h2 h3 h4 hs hsz hS hA hB hN hk hk2 hn hm hT hR hTl hRl hTf hRf hZ
  by_cases hk0 : k = 0
  case neg =>
    have d : (k != 0) = true := by simpa using hk0
    have HX := Lib.hid (HS.out.trans (if_pos hk0))
    clear HS H2 H3 H4 HZ HJT HJU hk0
    go_enter Tryz.func26, Tryz.ntmps26
    go_wp2_with fail
    refine (H1.out _ (bel_new (Below.refl _ _) _)).mono ?_
    rintro x w2 ⟨rfl, hb2⟩
    have HB2 := Lib.hid (bel_then (bel_new (Below.refl w.heap.size w) _) hb2)
    clear hb2
    go_wp2_with fail
    go_ret2
    exact ⟨by rw [HX.out]; rfl, HB2.out⟩
  subst hk0
  have HS1 := Lib.hid (HS.out.trans (if_neg (by simp)))
  clear HS
  cases N with
  | true =>
    have HX := Lib.hid (HS1.out.trans (if_pos rfl))
    clear HS1 H3 H4 HZ HJT HJU
    go_enter Tryz.func26, Tryz.ntmps26
    go_wp2_with fail
    refine (H1.out _ (bel_new (Below.refl _ _) _)).mono ?_
    rintro x w2 ⟨rfl, hb2⟩
    have HB2 := Lib.hid (bel_then (bel_new (Below.refl w.heap.size w) _) hb2)
    have hbx := box_kept hb2
    have c0 : w2.cell? ⟨w.heap.size, 0, none⟩ = some (.slice o7 n c7) := by simp [World.cell?, hbx]
    clear hb2 hbx
    go_wp2_with fail
    refine (H2.out _ HB2.out).mono ?_
    rintro x w3 ⟨rfl, hb3⟩
    have HB3 := Lib.hid (bel_then HB2.out hb3)
    clear hb3
    go_wp2_with fail
    go_ret2
    exact ⟨by rw [HX.out]; rfl, HB3.out⟩
  | false =>
    have HS2 := Lib.hid (HS1.out.trans (if_neg (by simp)))
    have hz := HZ.out rfl
    have hu0 : ¬ 9223372036854775807 < A.size + B.size := by omega
    clear HS1 HZ hz
    go_enter Tryz.func26, Tryz.ntmps26
    go_wp2_with fail
    refine (H1.out _ (bel_new (Below.refl _ _) _)).mono ?_
    rintro x w2 ⟨rfl, hb2⟩
    have HB2 := Lib.hid (bel_then (bel_new (Below.refl w.heap.size w) _) hb2)
    have hbx := box_kept hb2
    have c0 : w2.cell? ⟨w.heap.size, 0, none⟩ = some (.slice o7 n c7) := by simp [World.cell?, hbx]
    have c1 : w2.cell? ⟨w.heap.size, 1, none⟩ = some (.slice o9 m c9) := by simp [World.cell?, hbx]
    clear hb2 hbx
    go_wp2_with fail
    refine (H2.out _ HB2.out).mono ?_
    rintro x w3 ⟨rfl, hb3⟩
    have HB3 := Lib.hid (bel_then HB2.out hb3)
    have e0 := cell_later hb3 c0
    have e1 := cell_later hb3 c1
    clear hb3 c0 c1
    have JT := Lib.hid (fun k (hb : Below w3.heap.size w3 k) => (HJT.out k).mono (R' := fun e w' => ∃ q, e = .returned (.func (Fn.func 116) #[] #[.pointer (some ⟨q + 1, 0, none⟩), .pointer (some ⟨q, 0, none⟩)]) ∧ Below w3.heap.size w3 w' ∧ w'.heap[q]? = some (.cells #[.string ⟨#[]⟩] 9 (0, 0)) ∧ w'.heap[q + 1]? = some (.cells #[.func (Fn.func 68) #[] #[]] 112 (0, 0))) (by
      rintro x w' ⟨rfl, rfl⟩
      exact ⟨_, rfl, two_world k w3 _ _ hb⟩))
    have JU := Lib.hid (fun k (hb : Below w3.heap.size w3 k) => (HJU.out k).mono (R' := fun e w' => ∃ q, e = .returned (.func (Fn.func 119) #[] #[.pointer (some ⟨q + 1, 0, none⟩), .pointer (some ⟨q, 0, none⟩)]) ∧ Below w3.heap.size w3 w' ∧ w'.heap[q]? = some (.cells #[.string ⟨#[]⟩] 9 (0, 0)) ∧ w'.heap[q + 1]? = some (.cells #[.func (Fn.func 70) #[] #[]] 115 (0, 0))) (by
      rintro x w' ⟨rfl, rfl⟩
      exact ⟨_, rfl, two_world k w3 _ _ hb⟩))
    have CT := Lib.hid (fun q k (hb : Below w3.heap.size w3 k) (x0 : k.heap[q]? = some (.cells #[.string ⟨#[]⟩] 9 (0, 0))) (x1 : k.heap[q + 1]? = some (.cells #[.func (Fn.func 68) #[] #[]] 112 (0, 0))) => (H3.out trivial q k (bel_then HB3.out hb) x0 x1).mono (R' := fun e w' => e = .returned (.string A) ∧ Below w3.heap.size w3 w') (by
      rintro x w' ⟨rfl, h⟩
      exact ⟨rfl, bel_then hb h⟩))
    have CU := Lib.hid (fun q k (hb : Below w3.heap.size w3 k) (x0 : k.heap[q]? = some (.cells #[.string ⟨#[]⟩] 9 (0, 0))) (x1 : k.heap[q + 1]? = some (.cells #[.func (Fn.func 70) #[] #[]] 115 (0, 0))) => (H4.out trivial q k (bel_then HB3.out hb) x0 x1).mono (R' := fun e w' => e = .returned (.string B) ∧ Below w3.heap.size w3 w') (by
      rintro x w' ⟨rfl, h⟩
      exact ⟨rfl, bel_then hb h⟩))
    clear H1 H2 H3 H4 HJT HJU
    go_upto_region 6 with (fail)
    go_region_held3 (fun w' => w'.cell? ⟨w.heap.size, 0, none⟩ = some (.slice o7 n c7) ∧ w'.cell? ⟨w.heap.size, 1, none⟩ = some (.slice o9 m c9))
      (first | trivial | exact ⟨cell_later (w := w3) (by repeat (first | exact Below.refl _ _ | exact hdd | exact hcc | exact hbb | exact haa | refine Below.drew ?_)) e0, cell_later (w := w3) (by repeat (first | exact Below.refl _ _ | exact hdd | exact hcc | exact hbb | exact haa | refine Below.drew ?_)) e1⟩)
      (first
        | (go_at_call 67; refine (JT.out _ (by repeat (first | exact Below.refl _ _ | refine Below.drew ?_))).mono ?_; rintro x wA ⟨qA, rfl, haa, xa0, xa1⟩)
        | (go_at_call 116; refine (CT.out _ _ (by repeat (first | exact haa | refine Below.drew ?_)) (by exact xa0) (by exact xa1)).mono ?_; rintro x wB ⟨rfl, hbb⟩)
        | (go_at_call 69; refine (JU.out _ (by repeat (first | exact hbb | refine Below.drew ?_))).mono ?_; rintro x wC ⟨qC, rfl, hcc, xc0, xc1⟩)
        | (go_at_call 119; refine (CU.out _ _ (by repeat (first | exact hcc | refine Below.drew ?_)) (by exact xc0) (by exact xc1)).mono ?_; rintro x wD ⟨rfl, hdd⟩))
    have hb6 := hdd
    have HB6 := Lib.hid (bel_then HB3.out hb6)
    have hs2 := HS2.out
    have hzz : (A ++ B).size = A.size + B.size := by rw [ByteArray.size_append]
    obtain ⟨Z, hZ⟩ : ∃ Z, Z = A ++ B := ⟨_, rfl⟩
    rw [← hZ] at hs2 hzz ⊢
    have HS3 := Lib.hid hs2
    clear hs2 HS2 hb6 e0 e1 hZ JT JU CT CU hdd haa hbb hcc xa0 xa1 xc0 xc1
    have hzb : Z.size ≤ 9223372036854775807 := by omega
    by_cases hc : 4000 < Z.size
    · have d : decide (4000 < Z.size) = true := by simpa using hc
      have HX := Lib.hid (HS3.out.trans (if_pos hc))
      clear hzz HS3
      go_wp2_with fail
      go_ret2
      exact ⟨by rw [HX.out]; rfl, HB6.out⟩
    · have d : decide (4000 < Z.size) = false := by simpa using hc
      have HX := Lib.hid (HS3.out.trans (if_neg hc))
      clear hzz HS3
      go_wp2_with fail
      go_ret2
      exact ⟨by rw [HX.out]; rfl, HB6.out⟩
end Go.Proofs.YtahckikemljlnaaGreatDoor

namespace Go.Proofs.YtahckikemljlnaaGreatDoor
open Go.RowKit Ru

def tkA : TK := ⟨⟨#[97]⟩, 0, 1, .mk 2 [(97, 97)] []⟩
def T0 : List TK := [tkA, ⟨⟨#[98]⟩, 0, 2, .mk 2 [(10, 10), (98, 98)] []⟩, ⟨⟨#[111]⟩, 1, 3, .mk 2 [(99, 99)] []⟩, ⟨⟨#[99]⟩, 2, 4, .mk 2 [(100, 100)] []⟩]
theorem row_block {w : World} {g n size : Nat} {cs : Array Value} {e : TypeId} (h : w.heap[g]? = some (.cells cs e (0, 0))) (hs : cs.size = n * size) (hn : n ≤ maxLen) : w.ownsRow g e size (.slice (some ⟨g, 0, none⟩) n n) n cs.toList :=
  ⟨by simpa using hs, .inr ⟨g, n, cs, rfl, Nat.le_refl _, h, Nat.le_refl _, hn, hs, List.take_of_length_le (by simp [hs])⟩⟩
theorem re_set {w : World} {p : Nat} (s : List (Int × Int)) (n : Nat) (hn : n = s.length) (hl : n ≤ 1000) (h : w.heap[p]? = some (.cells (flatK .i32 s).toArray 86 (0, 0))) : ReIs w (.mk 2 s []) (.slice (some ⟨p, 0, none⟩) n n) (.slice none 0 0) := by
  subst hn
  have hz : (flatK .i32 s).length = s.length * 2 := by
    clear h hl
    induction s with
    | nil => rfl
    | cons a l ih => simp [flatK] at *; omega
  have hr := Row.owned (row_block (n := s.length) (size := 2) h (by simpa using hz) (by unfold maxLen; omega))
  exact .mk 2 s [] _ _ [] (by simpa using hr) (Row.nil w) rfl (fun i e p h => by simp at h) (fun i e p h => by simp at h)
theorem Mk0.owns {w w' : World} {pt ra rb rc rd : Nat} (h : Mk0 w w' pt ra rb rc rd) : w'.ownsRow w.heap.size 61 6 (.slice (some ⟨pt, 0, none⟩) 4 4) 4 (t0cells ra rb rc rd).toList :=
  owns_base (row_block h.ht (by simp) (by decide)) h.ge
theorem Mk0.toks {w w' : World} {pt ra rb rc rd : Nat} (h : Mk0 w w' pt ra rb rc rd) : TksAre w' (.slice (some ⟨pt, 0, none⟩) 4 4) T0 := by
  refine ⟨[(tkA, .slice (some ⟨ra, 0, none⟩) 1 1, .slice none 0 0), (⟨⟨#[98]⟩, 0, 2, .mk 2 [(10, 10), (98, 98)] []⟩, .slice (some ⟨rb, 0, none⟩) 2 2, .slice none 0 0), (⟨⟨#[111]⟩, 1, 3, .mk 2 [(99, 99)] []⟩, .slice (some ⟨rc, 0, none⟩) 1 1, .slice none 0 0), (⟨⟨#[99]⟩, 2, 4, .mk 2 [(100, 100)] []⟩, .slice (some ⟨rd, 0, none⟩) 1 1, .slice none 0 0)], rfl, Row.owned h.owns, ?_⟩
  intro i p hp
  match i, hp with
  | 0, hp => cases hp; exact re_set [(97, 97)] 1 rfl (by decide) h.ha
  | 1, hp => cases hp; exact re_set [(10, 10), (98, 98)] 2 rfl (by decide) h.hb
  | 2, hp => cases hp; exact re_set [(99, 99)] 1 rfl (by decide) h.hc
  | 3, hp => cases hp; exact re_set [(100, 100)] 1 rfl (by decide) h.hd
  | (n + 4), hp => simp at hp
theorem Mk0.moved {w w' w'' : World} {pt ra rb rc rd : Nat} (h : Mk0 w w' pt ra rb rc rd) (hb : Below w'.heap.size w' w'') : Mk0 w w'' pt ra rb rc rd :=
  ⟨bel_then h.bel hb, h.ge, bel_get hb h.ht, bel_get hb h.ha, bel_get hb h.hb, bel_get hb h.hc, bel_get hb h.hd⟩
theorem re_fit {k : Int} {s : List (Int × Int)} (hi : i32s s) (h : s.length ≤ 1000) : (RE.mk k s []).Fit := .mk k s [] hi h (by simp) (fun i e h => by simp at h)
theorem T0_fit : TFit T0 := by
  intro i t ht
  match i, ht with
  | 0, ht => cases ht; exact ⟨by decide, re_fit (by unfold i32s; decide) (by decide)⟩
  | 1, ht => cases ht; exact ⟨by decide, re_fit (by unfold i32s; decide) (by decide)⟩
  | 2, ht => cases ht; exact ⟨by decide, re_fit (by unfold i32s; decide) (by decide)⟩
  | 3, ht => cases ht; exact ⟨by decide, re_fit (by unfold i32s; decide) (by decide)⟩
  | (n + 4), ht => simp [T0] at ht
structure TW (w wi : World) (pg pt ra rb rc rd : Nat) : Prop where
  m0 : Mk0 w wi pt ra rb rc rd
  hg : wi.heap[pg]? = some (.cells #[.slice (some ⟨pt, 0, none⟩) 4 4, .slice none 0 0] 26 (0, 0))
  ge : w.heap.size ≤ pg
theorem TW.moved {w wi wj : World} {pg pt ra rb rc rd : Nat} (h : TW w wi pg pt ra rb rc rd) (hb : Below wi.heap.size wi wj) : TW w wj pg pt ra rb rc rd := ⟨h.m0.moved hb, bel_get hb h.hg, h.ge⟩
theorem TW.cells {w wi : World} {pg pt ra rb rc rd : Nat} (h : TW w wi pg pt ra rb rc rd) : wi.cell? ⟨pg, 0, none⟩ = some (.slice (some ⟨pt, 0, none⟩) 4 4) ∧ wi.cell? ⟨pg, 1, none⟩ = some (.slice none 0 0) ∧ pg < wi.heap.size ∧ pt < wi.heap.size := by
  have := h.hg
  exact ⟨by simp [World.cell?, this], by simp [World.cell?, this], hp_lt this, hp_lt h.m0.ht⟩
structure TH (w wx : World) (pg pt ra rb rc rd ph : Nat) (o9 : Option Addr) (c9 : Nat) : Prop where
  tw : TW w wx pg pt ra rb rc rd
  hh : wx.heap[ph]? = some (.cells #[.slice o9 5 c9, .slice none 0 0] 26 (0, 0))
  th : TksAre wx (.slice o9 5 c9) (T0 ++ [tkA])
theorem TH.moved {w wi wj : World} {pg pt ra rb rc rd ph c9 : Nat} {o9 : Option Addr} (h : TH w wi pg pt ra rb rc rd ph o9 c9) (hb : Below wi.heap.size wi wj) : TH w wj pg pt ra rb rc rd ph o9 c9 := ⟨h.tw.moved hb, bel_get hb h.hh, h.th.moved hb⟩
theorem TH.cells {w wi : World} {pg pt ra rb rc rd ph c9 : Nat} {o9 : Option Addr} (h : TH w wi pg pt ra rb rc rd ph o9 c9) : wi.cell? ⟨ph, 0, none⟩ = some (.slice o9 5 c9) ∧ wi.cell? ⟨ph, 1, none⟩ = some (.slice none 0 0) := by
  have := h.hh
  exact ⟨by simp [World.cell?, this], by simp [World.cell?, this]⟩
end Go.Proofs.YtahckikemljlnaaGreatDoor

namespace Go.Proofs.YtahckikemljlnaaGreatDoor
open Go.RowKit Ru

theorem t14a : setB [(97, 99)] = ⟨#[91, 97, 45, 99, 93]⟩ := by decide +kernel
theorem t14b : setB [(45, 45)] = ⟨#[92, 117, 123, 50, 68, 125]⟩ := by decide +kernel
theorem t14c : reP (.mk 5 [] [.mk 4 [] [.mk 2 [(97, 97)] [], .mk 1 [] []]]) = ⟨#[40, 97, 124, 40, 41, 41, 42]⟩ := by decide +kernel
theorem t14d : patP (.mk 3 [⟨#[111]⟩] [⟨#[99]⟩] [.mk 4 [] [] []]) = ⟨#[60, 111, 58, 95, 58, 99, 62]⟩ := by decide +kernel
theorem t14f : srcB [] [] = (⟨#[]⟩, 6) := by decide +kernel
theorem t14g : reP (.mk 9 [] []) = ⟨#[]⟩ := by decide +kernel
theorem t14e : srcB T0 [] = (⟨("tok a int 1 = /a/\ntok b int 2 = /[\\u{A}b]/\ntok o call 3 = /c/\ntok c ret 4 = /d/\n".toUTF8).data⟩, 0) := by decide +kernel
end Go.Proofs.YtahckikemljlnaaGreatDoor

namespace Go.Proofs.YtahckikemljlnaaGreatDoor
open Go.RowKit Ru

theorem re_leaf (k : Int) (w : World) : ReIs w (.mk k [] []) (.slice none 0 0) (.slice none 0 0) :=
  .mk k [] [] _ _ [] (Row.nil w) (Row.nil w) rfl (fun i e p h => by simp at h) (fun i e p h => by simp at h)
theorem rus_nil (w : World) : RusAre w (.slice none 0 0) [] := ⟨[], rfl, Row.nil w, fun i p h => by simp at h⟩
theorem tks_nil (w : World) : TksAre w (.slice none 0 0) [] := ⟨[], rfl, Row.nil w, fun i p h => by simp at h⟩
theorem tree14 {W : World} {r s t : Nat} (h0 : W.heap[r]? = some (.cells #[.int .i32 97, .int .i32 97] 86 (0, 0)))
    (h1 : W.heap[s]? = some (.cells #[.int .i64 2, .slice (some ⟨r, 0, none⟩) 1 1, .slice none 0 0, .int .i64 1, .slice none 0 0, .slice none 0 0] 35 (0, 0)))
    (h2 : W.heap[t]? = some (.cells #[.int .i64 4, .slice none 0 0, .slice (some ⟨s, 0, none⟩) 2 2] 35 (0, 0))) :
    ReIs W (.mk 5 [] [.mk 4 [] [.mk 2 [(97, 97)] [], .mk 1 [] []]]) (.slice none 0 0) (.slice (some ⟨t, 0, none⟩) 1 1) := by
  have a : ReIs W (.mk 2 [(97, 97)] []) (.slice (some ⟨r, 0, none⟩) 1 1) (.slice none 0 0) := re_set [(97, 97)] 1 rfl (by decide) h0
  have b := re_leaf 1 W
  have c : ReIs W (.mk 4 [] [.mk 2 [(97, 97)] [], .mk 1 [] []]) (.slice none 0 0) (.slice (some ⟨s, 0, none⟩) 2 2) := by
    refine .mk 4 [] _ _ _ [(2, .slice (some ⟨r, 0, none⟩) 1 1, .slice none 0 0), (1, .slice none 0 0, .slice none 0 0)] (Row.nil W) (Row.owned (row_block h1 (size := 3) rfl (by decide))) rfl ?_ ?_
    · intro i e p he hp
      match i, he, hp with
      | 0, he, hp => cases he; cases hp; rfl
      | 1, he, hp => cases he; cases hp; rfl
      | i + 2, he, hp => simp at he
    · intro i e p he hp
      match i, he, hp with
      | 0, he, hp => cases he; cases hp; exact a
      | 1, he, hp => cases he; cases hp; exact b
      | i + 2, he, hp => simp at he
  refine .mk 5 [] _ _ _ [(4, .slice none 0 0, .slice (some ⟨s, 0, none⟩) 2 2)] (Row.nil W) (Row.owned (row_block h2 (size := 3) rfl (by decide))) rfl ?_ ?_
  · intro i e p he hp
    match i, he, hp with
    | 0, he, hp => cases he; cases hp; rfl
    | i + 1, he, hp => simp at he
  · intro i e p he hp
    match i, he, hp with
    | 0, he, hp => cases he; cases hp; exact c
    | i + 1, he, hp => simp at he
theorem re_fit0 (k : Int) (s : List (Int × Int)) (hs : i32s s) (hn : s.length ≤ 1000) : RE.Fit (.mk k s []) := .mk k s [] hs hn (by simp) (fun i e h => by simp at h)
theorem tree14_fit : RE.Fit (.mk 5 [] [.mk 4 [] [.mk 2 [(97, 97)] [], .mk 1 [] []]]) := by
  have a : RE.Fit (.mk 2 [(97, 97)] []) := re_fit0 _ _ (by intro x hx; simp at hx; subst hx; simp) (by simp)
  have b : RE.Fit (.mk 1 [] []) := re_fit0 _ _ (by intro x hx; simp at hx) (by simp)
  refine .mk _ _ _ (by intro x hx; simp at hx) (by simp) (by simp) (fun i e h => ?_)
  match i, h with
  | 0, h =>
    cases h
    refine .mk _ _ _ (by intro x hx; simp at hx) (by simp) (by simp) (fun i e h => ?_)
    match i, h with
    | 0, h => cases h; exact a
    | 1, h => cases h; exact b
    | i + 2, h => simp at h
  | i + 1, h => simp at h
theorem pt_leaf (k : Int) (w : World) : PtIs w (.mk k [] [] []) (.slice none 0 0) (.slice none 0 0) (.slice none 0 0) :=
  .mk k [] [] [] _ _ _ [] (Row.nil w) (Row.nil w) (Row.nil w) rfl (fun i e p h => by simp at h) (fun i e p h => by simp at h)
theorem pt14 {W : World} {a b c : Nat} (h0 : W.heap[a]? = some (.cells #[.string ⟨#[111]⟩] 9 (0, 0))) (h1 : W.heap[b]? = some (.cells #[.string ⟨#[99]⟩] 9 (0, 0)))
    (h2 : W.heap[c]? = some (.cells #[.int .i64 4, .slice none 0 0, .slice none 0 0, .slice none 0 0] 65 (0, 0))) :
    PtIs W (.mk 3 [⟨#[111]⟩] [⟨#[99]⟩] [.mk 4 [] [] []]) (.slice (some ⟨a, 0, none⟩) 1 1) (.slice (some ⟨b, 0, none⟩) 1 1) (.slice (some ⟨c, 0, none⟩) 1 1) := by
  refine .mk 3 _ _ _ _ _ _ [(4, .slice none 0 0, .slice none 0 0, .slice none 0 0)] (Row.owned (row_block h0 (size := 1) rfl (by decide))) (Row.owned (row_block h1 (size := 1) rfl (by decide))) (Row.owned (row_block h2 (size := 4) rfl (by decide))) rfl ?_ ?_
  · intro i e p he hp
    match i, he, hp with
    | 0, he, hp => cases he; cases hp; rfl
    | i + 1, he, hp => simp at he
  · intro i e p he hp
    match i, he, hp with
    | 0, he, hp => cases he; cases hp; exact pt_leaf 4 W
    | i + 1, he, hp => simp at he
theorem pt14_fit : PT.Fit (.mk 3 [⟨#[111]⟩] [⟨#[99]⟩] [.mk 4 [] [] []]) := by
  refine .mk _ _ _ _ (by simp) (by simp) (by simp) (fun i e h => ?_)
  match i, h with
  | 0, h => cases h; exact .mk _ _ _ _ (by simp) (by simp) (by simp) (fun i e h => by simp at h)
  | i + 1, h => simp at h
theorem shorts1 (x : ByteArray) (h : x.size ≤ 1000) : Shorts [x] := ⟨by simp, fun y hy => by simp at hy; subst hy; exact h⟩
theorem pt14_shn : PT.Shn (.mk 3 [⟨#[111]⟩] [⟨#[99]⟩] [.mk 4 [] [] []]) := by
  refine .mk _ _ _ _ (shorts1 _ (by decide)) (shorts1 _ (by decide)) (fun i e h => ?_)
  match i, h with
  | 0, h => cases h; exact .mk _ _ _ _ (shorts_nil rfl) (shorts_nil rfl) (fun i e h => by simp at h)
  | i + 1, h => simp at h
theorem three_world (k w : World) (o1 o2 o3 : Obj) (h : Below w.heap.size w k) :
    Below w.heap.size w (((k.alloc o1).alloc o2).alloc o3) ∧ (((k.alloc o1).alloc o2).alloc o3).heap[k.heap.size]? = some o1 ∧ (((k.alloc o1).alloc o2).alloc o3).heap[k.heap.size + 1]? = some o2 ∧ (((k.alloc o1).alloc o2).alloc o3).heap[k.heap.size + 1 + 1]? = some o3 := by
  obtain ⟨hb, h1, h2⟩ := two_world k w o1 o2 h
  have hs := hb.size
  refine ⟨hb.alloc hs _, ?_, ?_, ?_⟩
  · rw [Below.heap_alloc _ _ _ (get_lt h1)]; exact h1
  · rw [Below.heap_alloc _ _ _ (get_lt h2)]; exact h2
  · have := heap_alloc_new ((k.alloc o1).alloc o2) o3
    simpa using this
set_option maxHeartbeats 4000000 in
set_option maxRecDepth 100000 in
theorem told14_any (w : World) (hT : TZ w) : Calls Tryz.prog 24 #[] w fun e w' => e = .returned (.bool true) ∧ Below w.heap.size w w' := by
  have hsr := fun tv (w' : World) (hb : Below w.heap.size w w') (ht : TksAre w' tv T0) => prSource_any T0 [] tv (.slice none 0 0) w' ht (rus_nil w') (by decide) (by decide) T0_fit (fun i r h => by simp at h) (hT.moved hb)
  have hs0 := fun (w' : World) (hb : Below w.heap.size w w') => prSource_any [] [] (.slice none 0 0) (.slice none 0 0) w' (tks_nil w') (rus_nil w') (by decide) (by decide) (fun i r h => by simp at h) (fun i r h => by simp at h) (hT.moved hb)
  rw [t14e] at hsr
  rw [t14f] at hs0
  obtain ⟨S, hS⟩ : ∃ S : ByteArray, S = ⟨("tok a int 1 = /a/\ntok b int 2 = /[\\u{A}b]/\ntok o call 3 = /c/\ntok c ret 4 = /d/\n".toUTF8).data⟩ := ⟨_, rfl⟩
  simp only [← hS] at hsr
  have HSR := Lib.hid hsr
  have HS0 := Lib.hid hs0
  have HTZ := Lib.hid hT
  have HMK := Lib.hid (fun w' => mk0_any w')
  have HON := Lib.hid (fun w' => one_exact 97 w')
  have hq : S.toList = [116, 111, 107, 32, 97, 32, 105, 110, 116, 32, 49, 32, 61, 32, 47, 97, 47, 10, 116, 111, 107, 32, 98, 32, 105, 110, 116, 32, 50, 32, 61, 32, 47, 91, 92, 117, 123, 65, 125, 98, 93, 47, 10, 116, 111, 107, 32, 111, 32, 99, 97, 108, 108, 32, 51, 32, 61, 32, 47, 99, 47, 10, 116, 111, 107, 32, 99, 32, 114, 101, 116, 32, 52, 32, 61, 32, 47, 100, 47, 10] := by rw [hS]; decide +kernel
  have HS := Lib.hid hq
  clear hq
  clear hsr hs0 hT hS
  go_enter Tryz.func24, Tryz.ntmps24
  go_wp2_with fail
  refine (HMK.out _).mono ?_
  rintro e w2 ⟨pt, ra, rb, rc, rd, rfl, hmk⟩
  have HB2 := Lib.hid hmk.bel
  have HT2 := Lib.hid hmk.toks
  clear hmk
  go_wp2_with fail
  refine (HSR.out _ _ (bel_new HB2.out _) (HT2.out.moved (bel_new (Below.refl _ _) _))).mono ?_
  rintro e w3 ⟨rfl, hb3⟩
  have HB3 := Lib.hid (bel_then (bel_new HB2.out _) hb3)
  clear hb3
  go_wp2_with fail
  refine (HS0.out _ HB3.out).mono ?_
  rintro e w4 ⟨rfl, hb4⟩
  have HB4 := Lib.hid (bel_then HB3.out hb4)
  clear hb4
  go_wp2_with fail
  refine (HON.out _).mono ?_
  rintro e w5 ⟨rfl, rfl⟩
  go_upto_region 5 with (fail)
  obtain ⟨hbx, -, hr, ha⟩ := three_world w4 w (.cells #[.int .i64 2, .slice (some ⟨w4.heap.size + 1, 0, none⟩) 1 1, .slice none 0 0] 35) (.cells #[.int .i32 97, .int .i32 97] 86) (.cells #[.int .i64 2, .slice (some ⟨w4.heap.size + 1, 0, none⟩) 1 1, .slice none 0 0] 35) HB4.out
  obtain ⟨W, hW⟩ : ∃ W, W = (((w4.alloc (.cells #[.int .i64 2, .slice (some ⟨w4.heap.size + 1, 0, none⟩) 1 1, .slice none 0 0] 35)).alloc (.cells #[.int .i32 97, .int .i32 97] 86)).alloc (.cells #[.int .i64 2, .slice (some ⟨w4.heap.size + 1, 0, none⟩) 1 1, .slice none 0 0] 35)) := ⟨_, rfl⟩
  rw [← hW] at hbx hr ha ⊢
  clear hW
  obtain ⟨pr, hpr⟩ : ∃ p, p = w4.heap.size + 1 := ⟨_, rfl⟩
  rw [← hpr] at hr ha ⊢
  obtain ⟨pa, hpa⟩ : ∃ p, p = pr + 1 := ⟨_, rfl⟩
  rw [← hpa] at ha ⊢
  clear hpr hpa
  have HBW := Lib.hid hbx
  have HR0 := Lib.hid hr
  have HA0 := Lib.hid ha
  have HSET := Lib.hid (fun (a b : Int) (hok : ROK (a, b)) (k : World) (p : Nat) (hp : p = k.heap.size) (hk : Below w.heap.size w k) => show Calls Tryz.prog 32 #[.slice (some ⟨p, 0, none⟩) 1 1] (k.alloc (.cells #[.int .i32 a, .int .i32 b] 86)) fun e w' => e = .returned (.string (setB [(a, b)])) ∧ Below k.heap.size k w' from by
    subst hp
    refine (prSet_any [(a, b)] _ _ (Row.litK k _ .i32 [(a, b)] 1 rfl (by decide)) (fun x hx => by simp at hx; subst hx; exact hok) (by simp) (HTZ.out.moved (hk.alloc hk.size _))).mono ?_
    rintro e w' ⟨rfl, hb⟩
    exact ⟨rfl, bel_then ((Below.refl _ _).alloc (Nat.le_refl _) _) hb⟩)
  clear hbx hr ha
  go_wp2_with fail
  refine (HSET.out 97 99 (by unfold ROK; simp) W _ rfl HBW.out).mono ?_
  rintro e w6 ⟨rfl, hb6⟩
  have HB6 := Lib.hid hb6
  clear hb6
  rw [t14a]
  go_wp2_with fail
  refine (HSET.out 45 45 (by unfold ROK; simp) w6 _ rfl (bel_then HBW.out HB6.out)).mono ?_
  rintro e w7 ⟨rfl, hb7⟩
  have HB7 := Lib.hid (bel_then HB6.out hb7)
  clear hb7
  rw [t14b]
  have HR7 := Lib.hid (bel_get HB7.out HR0.out)
  obtain ⟨d0, d1, d2⟩ := cell3_of (bel_get HB7.out HA0.out)
  have HW7 := Lib.hid (bel_then HBW.out HB7.out)
  go_wp2_with fail
  clear d0 d1 d2
  obtain ⟨hb8, x0, x1⟩ := two_world w7 w (.cells #[.int .i64 2, .slice (some ⟨pr, 0, none⟩) 1 1, .slice none 0 0, .int .i64 1, .slice none 0 0, .slice none 0 0] 35) (.cells #[.int .i64 4, .slice none 0 0, .slice (some ⟨w7.heap.size, 0, none⟩) 2 2] 35) HW7.out
  have hre := prRe_any (.mk 5 [] [.mk 4 [] [.mk 2 [(97, 97)] [], .mk 1 [] []]]) _ _ _ (tree14 (by rw [Below.heap_alloc _ _ _ (by have := get_lt HR7.out; simp; omega), Below.heap_alloc _ _ _ (get_lt HR7.out)]; exact HR7.out) x0 x1) tree14_fit (HTZ.out.moved hb8)
  rw [t14c] at hre
  refine hre.mono ?_
  rintro e w8 ⟨rfl, hb8'⟩
  have HW8 := Lib.hid (bel_then hb8 hb8')
  clear hre hb8 x0 x1 hb8'
  go_wp2_with fail
  obtain ⟨hb9, y0, y1, y2⟩ := three_world w8 w (.cells #[.string ⟨#[111]⟩] 9) (.cells #[.string ⟨#[99]⟩] 9) (.cells #[.int .i64 4, .slice none 0 0, .slice none 0 0, .slice none 0 0] 65) HW8.out
  have hpt := prPat_any (.mk 3 [⟨#[111]⟩] [⟨#[99]⟩] [.mk 4 [] [] []]) _ _ _ _ (pt14 y0 y1 y2) pt14_fit pt14_shn
  rw [t14d] at hpt
  refine hpt.mono ?_
  rintro e w9 ⟨rfl, hb9'⟩
  have HW9 := Lib.hid (bel_then hb9 hb9')
  clear hpt hb9 y0 y1 y2 hb9'
  have hq := HS.out
  go_wp2_with fail
  have hre := fun w' (hb : Below w.heap.size w w') => prRe_any (.mk 9 [] []) _ _ w' (re_leaf 9 w') (re_fit0 _ _ (by intro x hx; simp at hx) (by simp)) (HTZ.out.moved hb)
  simp only [t14g] at hre
  refine (hre _ HW9.out).mono ?_
  rintro e w10 ⟨rfl, hb10⟩
  have HW10 := Lib.hid (bel_then HW9.out hb10)
  clear hre hb10 hq
  go_wp2_with fail
  go_ret
  exact ⟨rfl, HW10.out⟩
end Go.Proofs.YtahckikemljlnaaGreatDoor
