/- gobolaw11.told. -/
import Derived.Test.YtkmnigoikkffnaaGMk0
import Derived.Test.YtkmnigoikkffnaaPtEmpty
import Derived.Deep.RegionLaw
import Derived.Test.YtkmnigoikkffnaaOwn
import Derived.Deep.RegionHeld3
set_option linter.unusedVariables false
set_option linter.unusedSimpArgs false
namespace Go.Proofs.Ytkmnigoikkffnaa
open Go.RowKit Ru

/-- Make's four tokens -/
def tkA : TK := ⟨⟨#[97]⟩, 0, 1, .mk 2 [(97, 97)] []⟩
def T0 : List TK := [tkA, ⟨⟨#[98]⟩, 0, 2, .mk 2 [(10, 10), (98, 98)] []⟩, ⟨⟨#[111]⟩, 1, 3, .mk 2 [(99, 99)] []⟩, ⟨⟨#[99]⟩, 2, 4, .mk 2 [(100, 100)] []⟩]
theorem row_block {w : World} {g n size : Nat} {cs : Array Value} {e : TypeId} (h : w.heap[g]? = some (.cells cs e (0, 0))) (hs : cs.size = n * size) (hn : n ≤ maxLen) : w.ownsRow g e size (.slice (some ⟨g, 0, none⟩) n n) n cs.toList :=
  ⟨by simpa using hs, .inr ⟨g, n, cs, rfl, Nat.le_refl _, h, Nat.le_refl _, hn, hs, List.take_of_length_le (by simp [hs])⟩⟩
theorem re_set {w : World} {p : Nat} (s : List (Int × Int)) (n : Nat) (hn : n = s.length) (hl : n ≤ 1000) (h : w.heap[p]? = some (.cells (flatK .i32 s).toArray 82 (0, 0))) : ReIs w (.mk 2 s []) (.slice (some ⟨p, 0, none⟩) n n) (.slice none 0 0) := by
  subst hn
  have hz : (flatK .i32 s).length = s.length * 2 := by
    clear h hl
    induction s with
    | nil => rfl
    | cons a l ih => simp [flatK] at *; omega
  have hr := Row.owned (row_block (n := s.length) (size := 2) h (by simpa using hz) (by unfold maxLen; omega))
  exact .mk 2 s [] _ _ [] (by simpa using hr) (Row.nil w) rfl (fun i e p h => by simp at h) (fun i e p h => by simp at h)
theorem Mk0.owns {w w' : World} {pt ra rb rc rd : Nat} (h : Mk0 w w' pt ra rb rc rd) : w'.ownsRow w.heap.size 55 6 (.slice (some ⟨pt, 0, none⟩) 4 4) 4 (t0cells ra rb rc rd).toList :=
  owns_base (row_block h.ht (by simp) (by decide)) h.ge
theorem Mk0.toks {w w' : World} {pt ra rb rc rd : Nat} (h : Mk0 w w' pt ra rb rc rd) : TksAre w' (.slice (some ⟨pt, 0, none⟩) 4 4) T0 := by
  refine ⟨[(tkA, .slice (some ⟨ra, 0, none⟩) 1 1, .slice none 0 0), (⟨⟨#[98]⟩, 0, 2, .mk 2 [(10, 10), (98, 98)] []⟩, .slice (some ⟨rb, 0, none⟩) 2 2, .slice none 0 0), (⟨⟨#[111]⟩, 1, 3, .mk 2 [(99, 99)] []⟩, .slice (some ⟨rc, 0, none⟩) 1 1, .slice none 0 0), (⟨⟨#[99]⟩, 2, 4, .mk 2 [(100, 100)] []⟩, .slice (some ⟨rd, 0, none⟩) 1 1, .slice none 0 0)], rfl, Row.owned h.owns, ?_⟩
  intro i p hp
  match i, hp with
  | 0, hp => cases hp; exact re_set [(97, 97)] 1 rfl (by decide) h.ha
  | 1, hp => cases hp; exact re_set [(10, 10), (98, 98)] 2 rfl (by decide) h.hb
  | 2, hp => cases hp; exact re_set [(99, 99)] 1 rfl (by decide) h.hc
  | 3, hp => cases hp; exact re_set [(100, 100)] 1 rfl (by decide) h.hd
  | (n + 4), hp => simp at hp
theorem Mk0.moved {w w' w'' : World} {pt ra rb rc rd : Nat} (h : Mk0 w w' pt ra rb rc rd) (hb : Below w'.heap.size w' w'') : Mk0 w w'' pt ra rb rc rd :=
  ⟨bel_then h.bel hb, h.ge, bel_get hb h.ht, bel_get hb h.ha, bel_get hb h.hb, bel_get hb h.hc, bel_get hb h.hd⟩
theorem re_fit {k : Int} {s : List (Int × Int)} (hi : i32s s) (h : s.length ≤ 1000) : (RE.mk k s []).Fit := .mk k s [] hi h (by simp) (fun i e h => by simp at h)
theorem T0_fit : TFit T0 := by
  intro i t ht
  match i, ht with
  | 0, ht => cases ht; exact ⟨by decide, re_fit (by unfold i32s; decide) (by decide)⟩
  | 1, ht => cases ht; exact ⟨by decide, re_fit (by unfold i32s; decide) (by decide)⟩
  | 2, ht => cases ht; exact ⟨by decide, re_fit (by unfold i32s; decide) (by decide)⟩
  | 3, ht => cases ht; exact ⟨by decide, re_fit (by unfold i32s; decide) (by decide)⟩
  | (n + 4), ht => simp [T0] at ht
theorem toks_nil (w : World) : TksAre w (.slice none 0 0) [] := ⟨[], rfl, Row.nil w, fun i p h => by simp at h⟩
theorem rules_nil (w : World) : RusAre w (.slice none 0 0) [] := ⟨[], rfl, Row.nil w, fun i p h => by simp at h⟩
theorem tfit_nil : TFit [] := fun i t h => by simp at h
theorem rfit_nil : RFit [] := fun i t h => by simp at h
theorem infoToken : ∃ i, Try.prog.info? 55 = some i ∧ i.zero = some (.agg #[.string ⟨#[]⟩, .int .i64 0, .int .i64 0, .int .i64 0, .slice none 0 0, .slice none 0 0]) ∧ i.size = 6 ∧ i.bytes = 88 := info_parts (by kernel_rfl)
theorem chk_e : chkE [] [] = (6, 0) := rfl
theorem chk_0 : chkE T0 [] = (0, 0) := by kernel_rfl
theorem chk_h : chkE (T0 ++ [tkA]) [] = (4, 4) := by kernel_rfl
theorem nam_1 : namB ⟨#[97, 98, 49]⟩ = true := by kernel_rfl
theorem nam_2 : namB ⟨#[116, 111, 107]⟩ = false := by kernel_rfl
theorem nam_3 : namB ⟨#[49, 97]⟩ = false := by kernel_rfl
theorem find_b : findB T0 ⟨#[98]⟩ = 1 := by kernel_rfl
theorem find_z : findB T0 ⟨#[122, 122]⟩ = -1 := by kernel_rfl
theorem same_0 : (allS TK.same T0 T0 && allS RU.same [] []) = true := by kernel_rfl
theorem same_h : (allS TK.same T0 (T0 ++ [tkA]) && allS RU.same [] []) = false := by kernel_rfl
def ptWell : PT := .mk 4 [] [] []
def ptStar : PT := .mk 7 [] [] [ptWell]
theorem cnt_s : ptStar.cnt 1 0 0 = (2, 2) := by kernel_rfl
theorem emp_w : ptWell.emp = true := by kernel_rfl
/-- g in memory -/
structure TW (w wi : World) (pg pt ra rb rc rd : Nat) : Prop where
  m0 : Mk0 w wi pt ra rb rc rd
  hg : wi.heap[pg]? = some (.cells #[.slice (some ⟨pt, 0, none⟩) 4 4, .slice none 0 0] 25 (0, 0))
  ge : w.heap.size ≤ pg
theorem TW.moved {w wi wj : World} {pg pt ra rb rc rd : Nat} (h : TW w wi pg pt ra rb rc rd) (hb : Below wi.heap.size wi wj) : TW w wj pg pt ra rb rc rd := ⟨h.m0.moved hb, bel_get hb h.hg, h.ge⟩
theorem TW.cells {w wi : World} {pg pt ra rb rc rd : Nat} (h : TW w wi pg pt ra rb rc rd) : wi.cell? ⟨pg, 0, none⟩ = some (.slice (some ⟨pt, 0, none⟩) 4 4) ∧ wi.cell? ⟨pg, 1, none⟩ = some (.slice none 0 0) ∧ pg < wi.heap.size ∧ pt < wi.heap.size := by
  have := h.hg
  exact ⟨by simp [World.cell?, this], by simp [World.cell?, this], hp_lt this, hp_lt h.m0.ht⟩
theorem TW.first {w wi : World} {pg pt ra rb rc rd : Nat} (h : TW w wi pg pt ra rb rc rd) : wi.cell? ⟨pt, 0, none⟩ = some (.string ⟨#[97]⟩) ∧ wi.cell? ⟨pt, 1, none⟩ = some (.int .i64 0) ∧ wi.cell? ⟨pt, 2, none⟩ = some (.int .i64 1) ∧ wi.cell? ⟨pt, 3, none⟩ = some (.int .i64 2) ∧ wi.cell? ⟨pt, 4, none⟩ = some (.slice (some ⟨ra, 0, none⟩) 1 1) ∧ wi.cell? ⟨pt, 5, none⟩ = some (.slice none 0 0) := by
  have := h.m0.ht
  simp [World.cell?, this]
theorem pt_well (w : World) : PtIs w ptWell (.slice none 0 0) (.slice none 0 0) (.slice none 0 0) :=
  .mk 4 [] [] [] _ _ _ [] (Row.nil w) (Row.nil w) (Row.nil w) rfl (fun i c p h => by simp at h) (fun i c p h => by simp at h)
theorem pt_star {w : World} {p : Nat} (h : w.heap[p]? = some (.cells #[.int .i64 4, .slice none 0 0, .slice none 0 0, .slice none 0 0] 43 (0, 0))) : PtIs w ptStar (.slice none 0 0) (.slice none 0 0) (.slice (some ⟨p, 0, none⟩) 1 1) := by
  refine .mk 7 [] [] [ptWell] _ _ _ [(4, .slice none 0 0, .slice none 0 0, .slice none 0 0)] (Row.nil w) (Row.nil w) (Row.owned (row_block (n := 1) (size := 4) h rfl (by decide))) rfl ?_ ?_
  · intro i c p hc hp
    match i, hc, hp with
    | 0, hc, hp => cases hc; cases hp; rfl
    | (n + 1), hc, hp => simp at hc
  · intro i c p hc hp
    match i, hc, hp with
    | 0, hc, hp => cases hc; cases hp; exact pt_well w
    | (n + 1), hc, hp => simp at hc
theorem well_fit : ptWell.Fit := .mk 4 [] [] [] (by decide) (by decide) (by decide) (fun i p h => by simp at h)
theorem star_fit : ptStar.Fit := .mk 7 [] [] [ptWell] (by decide) (by decide) (by decide) (fun i p h => by
  match i, h with
  | 0, h => cases h; exact well_fit
  | (n + 1), h => simp at h)
theorem own0 {w : World} {e : TypeId} {base size g : Nat} (hg : g = w.heap.size) (hb : base ≤ w.heap.size) : (w.alloc (.cells #[] e)).ownsRow base e size (.slice (some ⟨g, 0, none⟩) 0 0) 0 [] := by
  subst hg; exact World.ownsRow_lit w #[] 0 hb (by decide) (by simp)
theorem row_six {w : World} {e : TypeId} {g : Nat} {cs : Array Value} (hs : cs.size = 6) (h : w.heap[g]? = some (.cells cs e (0, 0))) : Row w (.slice (some ⟨g, 0, none⟩) 1 1) 1 cs.toList :=
  Row.owned (row_block (n := 1) (size := 6) h (by simpa using hs) (by decide))
theorem row_six_new {w : World} {e : TypeId} {g : Nat} {cs : Array Value} (hs : cs.size = 6) (hg : g = w.heap.size) : Row (w.alloc (.cells cs e)) (.slice (some ⟨g, 0, none⟩) 1 1) 1 cs.toList := by
  subst hg; exact row_six hs (heap_alloc_new w _)
theorem row_drew {w : World} {v : Value} {n : Nat} {cs : List Value} (h : Row w v n cs) : Row w.drew v n cs := h.below (Below.refl _ _).drew
abbrev sixA (ra : Nat) : Array Value := #[.string ⟨#[97]⟩, .int .i64 0, .int .i64 1, .int .i64 2, .slice (some ⟨ra, 0, none⟩) 1 1, .slice none 0 0]
theorem six_at {w8 W : World} {row : Option Nat} {g ra : Nat} {e : TypeId} (hg8 : W.grownBy w8 row) (hW : W.heap[g]? = some (.cells (sixA ra) e (0, 0))) (hr : row ≠ some g) : Row w8 (.slice (some ⟨g, 0, none⟩) 1 1) 1 (sixA ra).toList :=
  row_six rfl (by rw [hg8.block g (Array.getElem?_eq_some_iff.1 hW).1 (fun e => hr e.symm)]; exact hW)
theorem al_snd (w : World) (a b : Obj) : ((w.alloc a).alloc b).drew.heap[w.heap.size + 1]? = some b := by
  have := heap_alloc_new (w.alloc a) b
  rw [drew_heap]
  simpa using this
theorem al_fst (w : World) (a b : Obj) : ((w.alloc a).alloc b).drew.heap[w.heap.size]? = some a := by
  rw [drew_heap, Below.heap_alloc _ _ _ (by simp)]; exact heap_alloc_new w a
/-- behind region 5: h in memory too -/
def Told5 (w wx : World) (pg pt ra rb rc rd ph : Nat) : Prop := TW w wx pg pt ra rb rc rd ∧ ∃ v9, wx.heap[ph]? = some (.cells #[v9, .slice none 0 0] 25 (0, 0)) ∧ TksAre wx v9 (T0 ++ [tkA])
theorem told5_of {w w6 w7 X : World} {pg pt ra rb rc rd ph n : Nat} {v9 : Value} (ht : TW w w6 pg pt ra rb rc rd) (hp : w6.heap.size ≤ ph) (hb7 : Below w6.heap.size w6 w7) (h7 : w7.heap[ph]? = some (.cells #[.slice (some ⟨pt, 0, none⟩) 4 4, .slice none 0 0] 25 (0, 0)))
    (hb : Below w7.heap.size w7 X) (ho : X.ownsRow w7.heap.size 55 6 v9 n ((t0cells ra rb rc rd).toList ++ (sixA ra).toList)) (hn : n = 5) : Told5 w (X.setCell ⟨ph, 0, none⟩ v9) pg pt ra rb rc rd ph := by
  subst hn
  have hX := bel_get hb h7
  have hlt := hp_lt h7
  have hbe : Below w6.heap.size w6 (X.setCell ⟨ph, 0, none⟩ v9) := (bel_then hb7 hb).setCell hp v9
  have hT := ht.moved hbe
  refine ⟨hT, v9, by simp [World.setCell, Array.getElem?_modify, hX], ?_⟩
  have ho2 : (X.setCell ⟨ph, 0, none⟩ v9).ownsRow w7.heap.size 55 6 v9 5 ((t0cells ra rb rc rd).toList ++ (sixA ra).toList) := by
    refine owns_ag (S := fun k => w7.heap.size ≤ k) ho ((Ag.refl _ X).setCell (by simpa using hlt) v9) (fun j hj => (ho.lt j hj).1)
  refine ⟨[(tkA, .slice (some ⟨ra, 0, none⟩) 1 1, .slice none 0 0), (⟨⟨#[98]⟩, 0, 2, .mk 2 [(10, 10), (98, 98)] []⟩, .slice (some ⟨rb, 0, none⟩) 2 2, .slice none 0 0), (⟨⟨#[111]⟩, 1, 3, .mk 2 [(99, 99)] []⟩, .slice (some ⟨rc, 0, none⟩) 1 1, .slice none 0 0), (⟨⟨#[99]⟩, 2, 4, .mk 2 [(100, 100)] []⟩, .slice (some ⟨rd, 0, none⟩) 1 1, .slice none 0 0), (tkA, .slice (some ⟨ra, 0, none⟩) 1 1, .slice none 0 0)], rfl, Row.owned ho2, ?_⟩
  intro i p hp
  match i, hp with
  | 0, hp => cases hp; exact re_set [(97, 97)] 1 rfl (by decide) hT.m0.ha
  | 1, hp => cases hp; exact re_set [(10, 10), (98, 98)] 2 rfl (by decide) hT.m0.hb
  | 2, hp => cases hp; exact re_set [(99, 99)] 1 rfl (by decide) hT.m0.hc
  | 3, hp => cases hp; exact re_set [(100, 100)] 1 rfl (by decide) hT.m0.hd
  | 4, hp => cases hp; exact re_set [(97, 97)] 1 rfl (by decide) hT.m0.ha
  | (n + 5), hp => simp at hp
/-- g and h in memory -/
structure TH (w wx : World) (pg pt ra rb rc rd ph : Nat) (o9 : Option Addr) (c9 : Nat) : Prop where
  tw : TW w wx pg pt ra rb rc rd
  hh : wx.heap[ph]? = some (.cells #[.slice o9 5 c9, .slice none 0 0] 25 (0, 0))
  th : TksAre wx (.slice o9 5 c9) (T0 ++ [tkA])
theorem TH.moved {w wi wj : World} {pg pt ra rb rc rd ph c9 : Nat} {o9 : Option Addr} (h : TH w wi pg pt ra rb rc rd ph o9 c9) (hb : Below wi.heap.size wi wj) : TH w wj pg pt ra rb rc rd ph o9 c9 := ⟨h.tw.moved hb, bel_get hb h.hh, h.th.moved hb⟩
theorem TH.cells {w wi : World} {pg pt ra rb rc rd ph c9 : Nat} {o9 : Option Addr} (h : TH w wi pg pt ra rb rc rd ph o9 c9) : wi.cell? ⟨ph, 0, none⟩ = some (.slice o9 5 c9) ∧ wi.cell? ⟨ph, 1, none⟩ = some (.slice none 0 0) := by
  have := h.hh
  exact ⟨by simp [World.cell?, this], by simp [World.cell?, this]⟩
theorem TH_fit : TFit (T0 ++ [tkA]) := by
  intro i t ht
  match i, ht with
  | 0, ht => cases ht; exact ⟨by decide, re_fit (by unfold i32s; decide) (by decide)⟩
  | 1, ht => cases ht; exact ⟨by decide, re_fit (by unfold i32s; decide) (by decide)⟩
  | 2, ht => cases ht; exact ⟨by decide, re_fit (by unfold i32s; decide) (by decide)⟩
  | 3, ht => cases ht; exact ⟨by decide, re_fit (by unfold i32s; decide) (by decide)⟩
  | 4, ht => cases ht; exact ⟨by decide, re_fit (by unfold i32s; decide) (by decide)⟩
  | (n + 5), ht => simp [T0] at ht
theorem may_0 : decide ((chkE T0 []).1 = 0) = true := by kernel_rfl
set_option maxHeartbeats 8000000 in
set_option maxRecDepth 100000 in
theorem gtold_any (w : World) : Calls Try.prog 8 #[] w fun e w' => e = .returned (.bool true) ∧ Below w.heap.size w w' := by
  obtain ⟨ii, hi, hz0, hz1, hz2⟩ := infoToken
  go_enter Try.func8, Try.ntmps8
  go_wp2_with fail
  refine (mk0_any w).mono ?_
  rintro e w2 ⟨pt, ra, rb, rc, rd, rfl, hmk⟩
  have HM := Lib.hid hmk
  clear hmk
  go_wp2_with fail
  obtain ⟨pg, hpg⟩ : ∃ p, p = w2.heap.size := ⟨_, rfl⟩
  obtain ⟨w3, hw3⟩ : ∃ w3, w3 = w2.alloc (.cells #[.slice (some ⟨pt, 0, none⟩) 4 4, .slice none 0 0] 25) := ⟨_, rfl⟩
  have htw : TW w w3 pg pt ra rb rc rd := by
    rw [hw3]
    exact ⟨HM.out.moved (bel_new (Below.refl _ _) _), by rw [hpg]; exact heap_alloc_new w2 _, by rw [hpg]; exact HM.out.bel.size⟩
  rw [← hw3, ← hpg]
  have HT := Lib.hid htw
  clear hw3 hpg htw HM
  have hc := gchk_any [] [] _ _ w3 (toks_nil w3) (rules_nil w3) (by decide) (by decide) tfit_nil rfit_nil
  rw [chk_e] at hc
  refine hc.mono ?_
  clear hc
  rintro e w4 ⟨rfl, hb4⟩
  have HT4 := Lib.hid (HT.out.moved hb4)
  clear hb4 HT
  go_wp2_with fail
  obtain ⟨w5, hw5⟩ : ∃ w5, w5 = w4.alloc (.cells #[.int .i64 4, .slice none 0 0, .slice none 0 0, .slice none 0 0] 43) := ⟨_, rfl⟩
  have hps : w5.heap[w4.heap.size]? = some (.cells #[.int .i64 4, .slice none 0 0, .slice none 0 0, .slice none 0 0] 43 (0, 0)) := by rw [hw5]; exact heap_alloc_new w4 _
  have HT5 := Lib.hid (HT4.out.moved (by rw [hw5]; exact bel_new (Below.refl _ _) _ : Below w4.heap.size w4 w5))
  rw [← hw5]
  have hc := gramCount_any ptStar _ _ _ w5 (pt_star hps) star_fit (by decide)
  rw [cnt_s] at hc
  refine hc.mono ?_
  clear hc hps hw5 HT4
  rintro e w6 ⟨rfl, hb6⟩
  have HT6 := Lib.hid (HT5.out.moved hb6)
  clear hb6 HT5
  obtain ⟨c0, c1, c2, c3⟩ := HT6.out.cells
  go_wp2_with fail
  obtain ⟨ph, hph⟩ : ∃ p, p = w6.heap.size := ⟨_, rfl⟩
  obtain ⟨w7, hw7⟩ : ∃ w7, w7 = w6.alloc (.cells #[.slice (some ⟨pt, 0, none⟩) 4 4, .slice none 0 0] 25) := ⟨_, rfl⟩
  have hh7 : w7.heap[ph]? = some (.cells #[.slice (some ⟨pt, 0, none⟩) 4 4, .slice none 0 0] 25 (0, 0)) := by rw [hw7, hph]; exact heap_alloc_new w6 _
  have ht7 := HT6.out.moved (by rw [hw7]; exact bel_new (Below.refl _ _) _ : Below w6.heap.size w6 w7)
  rw [← hw7, ← hph]
  obtain ⟨e0, e1, e2, e3, e4, e5⟩ := HT6.out.first
  clear c1
  obtain ⟨d0, d1, d2, d3⟩ := And.intro c0 (And.intro c2 (And.intro c3 trivial))
  clear c0 c2 c3
  obtain ⟨c0, c1, c2, c3⟩ := ht7.cells
  obtain ⟨f0, f1, f2, f3, f4, f5⟩ := ht7.first
  have hph7 : ph < w7.heap.size := hp_lt hh7
  have hpgh : ¬ pg = ph := by rw [hph]; have := hp_lt HT6.out.hg; omega
  have hpth : ¬ pt = ph := by rw [hph]; have := hp_lt HT6.out.m0.ht; omega
  have hsz : w.heap.size ≤ w7.heap.size := ht7.m0.bel.size
  have s0 : w7.cell? ⟨ph, 0, none⟩ = some (.slice (some ⟨pt, 0, none⟩) 4 4) ∧ w7.frozen? ⟨ph, 0, none⟩ = false := by simp [World.cell?, World.frozen?, hh7]
  obtain ⟨s0, s1⟩ := s0
  have HT7 := Lib.hid ht7
  have HH7 := Lib.hid hh7
  have HC := Lib.hid (And.intro (Nat.le_of_eq hph.symm) (by rw [hw7]; exact bel_new (Below.refl _ _) _ : Below w6.heap.size w6 w7))
  have hb67 := HC.out.2
  have hph6 := HC.out.1
  clear hw7 hph hh7 ht7
  have HROW := Lib.hid (Row.owned HT7.out.m0.owns)
  go_cut [] from 23 to 33 (fun wx => Told5 w wx pg pt ra rb rc rd ph)
  case first =>
   go_region_held3 (fun w' => w'.cell? ⟨pg, 0, none⟩ = some (.slice (some ⟨pt, 0, none⟩) 4 4) ∧ w'.cell? ⟨pt, 0, none⟩ = some (.string ⟨#[97]⟩) ∧ w'.cell? ⟨pt, 1, none⟩ = some (.int .i64 0) ∧ w'.cell? ⟨pt, 2, none⟩ = some (.int .i64 1) ∧ w'.cell? ⟨pt, 3, none⟩ = some (.int .i64 2) ∧ w'.cell? ⟨pt, 4, none⟩ = some (.slice (some ⟨ra, 0, none⟩) 1 1) ∧ w'.cell? ⟨pt, 5, none⟩ = some (.slice none 0 0)) (first | trivial | (refine ⟨?_, ?_, ?_, ?_, ?_, ?_, ?_⟩ <;> refine (Below.cell (w := w6) (B := w6.heap.size) ?_ (by assumption)).trans (by assumption) <;> repeat (first | exact hb67 | exact hC9 | exact hC8 | refine Below.drew ?_ | refine bel_new ?_ _ | refine Below.setCell ?_ hph6 _)))
     (first
       | (refine step_append_far _ rfl _ _ 22 rfl w7.heap.size 55 ii _ 6 88 Try.underlying22 hi hz0 hz1 hz2 rfl (by decide) _ 0 [] rfl (by first | exact own0 (by simp) (by simp) | exact (own0 (by simp) (by simp)).alloc _ | exact owns_drew (own0 (by simp) (by simp)) | exact owns_drew ((own0 (by simp) (by simp)).alloc _) | exact own0 (by simp) (by simp; omega)) (.slice (some ⟨pt, 0, none⟩) 4 4) 4 (t0cells ra rb rc rd).toList rfl (HROW.out.below (by repeat (first | exact Below.refl _ _ | refine Below.drew ?_ | refine bel_new ?_ _))) rfl (by simp [Value.oneCell']) (by decide) (by decide) (by simp <;> omega) ?_; intro v8 w8 hown8 hg8 hf8 hb8; rw [List.nil_append] at hown8; obtain ⟨o8, c8, rfl⟩ := owns_slice hown8
          have hB8 : Below w7.heap.size w7 w8 := Below.trans (by repeat (first | exact Below.refl _ _ | refine Below.drew ?_ | refine bel_new ?_ _)) hb8
          have k0 := (hB8.cell c2).trans c0
          have k1 := (hB8.cell c2).trans c1
          have x0 := (hB8.cell c3).trans f0
          have x1 := (hB8.cell c3).trans f1
          have x2 := (hB8.cell c3).trans f2
          have x3 := (hB8.cell c3).trans f3
          have x4 := (hB8.cell c3).trans f4
          have x5 := (hB8.cell c3).trans f5
          have hC8 := bel_then hb67 hB8
          have y0 := (hB8.cell hph7).trans s0)
       | (refine step_append_far _ rfl _ _ 22 rfl w7.heap.size 55 ii _ 6 88 Try.underlying22 hi hz0 hz1 hz2 rfl (by decide) _ 4 (t0cells ra rb rc rd).toList rfl (by first | exact World.ownsRow.alloc hown8 _ | exact hown8) _ 1 (sixA ra).toList rfl (by first | exact row_six_new (cs := sixA ra) (by rfl) (by rfl) | exact six_at (row := some w7.heap.size) (g := w7.heap.size + 1) hg8 (al_snd _ _ _) (by simp) | exact six_at (row := some (w7.heap.size + 1)) (g := w7.heap.size) hg8 (al_fst _ _ _) (by simp)) rfl (by simp [Value.oneCell']) (by decide) (by decide) (by have := hB8.size; first | omega | (simp <;> omega)) ?_; intro v9 w9 hown9 hg9 hf9 hb9; obtain ⟨o9, c9, rfl⟩ := owns_slice hown9
          have hB9 : Below w7.heap.size w7 w9 := Below.trans (by repeat (first | exact hB8 | refine Below.drew ?_ | refine bel_new ?_ _)) hb9
          have hC9 := bel_then hb67 hB9
          have z1 : w9.frozen? ⟨ph, 0, none⟩ = false := by have := bel_get hB9 HH7.out; simp [World.frozen?, this]
          have z0 : w9.cell? ⟨ph, 0, none⟩ = some (.slice (some ⟨pt, 0, none⟩) 4 4) := by have := bel_get hB9 HH7.out; simp [World.cell?, this]))
   all_goals (go_wp2_with (fail))
   all_goals go_meet
   all_goals (exact told5_of HT6.out HC.out.1 HC.out.2 HH7.out hB9 hown9 (by rfl))
  case rest =>
   obtain ⟨htx, v9, h9, ht9⟩ := hcut
   clear c0 c1 c2 c3 d0 d1 d2 d3 e0 e1 e2 e3 e4 e5 f0 f1 f2 f3 f4 f5 s0 s1 hph7 hpgh hpth hsz hb67 hph6
   obtain ⟨o9, c9, nm9, kd9, cl9, rk9, so9, sn9, sc9, lo9, ln9, lc9, rfl, -⟩ := ht9.all
   have HT := Lib.hid (TH.mk (o9 := o9) (c9 := c9) htx h9 ht9)
   clear htx h9 ht9 nm9 kd9 cl9 rk9 so9 sn9 sc9 lo9 ln9 lc9 HROW HT6 HT7 HH7 HC
   obtain ⟨c0, c1, c2, c3⟩ := HT.out.tw.cells
   obtain ⟨g0, g1⟩ := HT.out.cells
   go_wp2_with fail
   have hc := gchk_any (T0 ++ [tkA]) [] _ _ wc HT.out.th (rules_nil wc) (by decide) (by decide) TH_fit rfit_nil
   rw [chk_h] at hc
   refine hc.mono ?_
   clear hc c0 c1 c2 c3 g0 g1
   rintro e x0 ⟨rfl, hb⟩
   replace HT := Lib.hid (HT.out.moved hb)
   clear hb
   obtain ⟨c0, c1, c2, c3⟩ := HT.out.tw.cells
   obtain ⟨g0, g1⟩ := HT.out.cells
   go_wp2_with fail
   have hc := gramMay_any T0 [] _ _ x0 HT.out.tw.m0.toks (rules_nil x0) (by decide) (by decide) T0_fit rfit_nil
   rw [may_0] at hc
   refine hc.mono ?_
   clear hc c0 c1 c2 c3 g0 g1
   rintro e x1 ⟨rfl, hb⟩
   replace HT := Lib.hid (HT.out.moved hb)
   clear hb
   obtain ⟨c0, c1, c2, c3⟩ := HT.out.tw.cells
   obtain ⟨g0, g1⟩ := HT.out.cells
   go_wp2_with fail
   have hc := gName_any ⟨#[97, 98, 49]⟩ x1 (by decide)
   rw [nam_1] at hc
   refine hc.mono ?_
   clear hc c0 c1 c2 c3 g0 g1
   rintro e x2 ⟨rfl, hb⟩
   replace HT := Lib.hid (HT.out.moved hb)
   clear hb
   obtain ⟨c0, c1, c2, c3⟩ := HT.out.tw.cells
   obtain ⟨g0, g1⟩ := HT.out.cells
   go_wp2_with fail
   have hc := gName_any ⟨#[116, 111, 107]⟩ x2 (by decide)
   rw [nam_2] at hc
   refine hc.mono ?_
   clear hc c0 c1 c2 c3 g0 g1
   rintro e x3 ⟨rfl, hb⟩
   replace HT := Lib.hid (HT.out.moved hb)
   clear hb
   obtain ⟨c0, c1, c2, c3⟩ := HT.out.tw.cells
   obtain ⟨g0, g1⟩ := HT.out.cells
   go_wp2_with fail
   have hc := gName_any ⟨#[49, 97]⟩ x3 (by decide)
   rw [nam_3] at hc
   refine hc.mono ?_
   clear hc c0 c1 c2 c3 g0 g1
   rintro e x4 ⟨rfl, hb⟩
   replace HT := Lib.hid (HT.out.moved hb)
   clear hb
   obtain ⟨c0, c1, c2, c3⟩ := HT.out.tw.cells
   obtain ⟨g0, g1⟩ := HT.out.cells
   go_wp2_with fail
   have hc := gramFind_any T0 _ (.slice none 0 0) ⟨#[98]⟩ x4 HT.out.tw.m0.toks (by decide) ⟨none, 0, 0, rfl⟩
   rw [find_b] at hc
   refine hc.mono ?_
   clear hc c0 c1 c2 c3 g0 g1
   rintro e x5 ⟨rfl, hb⟩
   replace HT := Lib.hid (HT.out.moved hb)
   clear hb
   obtain ⟨c0, c1, c2, c3⟩ := HT.out.tw.cells
   obtain ⟨g0, g1⟩ := HT.out.cells
   go_wp2_with fail
   have hc := gramFind_any T0 _ (.slice none 0 0) ⟨#[122, 122]⟩ x5 HT.out.tw.m0.toks (by decide) ⟨none, 0, 0, rfl⟩
   rw [find_z] at hc
   refine hc.mono ?_
   clear hc c0 c1 c2 c3 g0 g1
   rintro e x6 ⟨rfl, hb⟩
   replace HT := Lib.hid (HT.out.moved hb)
   clear hb
   obtain ⟨c0, c1, c2, c3⟩ := HT.out.tw.cells
   obtain ⟨g0, g1⟩ := HT.out.cells
   go_wp2_with fail
   have hc := gramEmpty_any ptWell _ _ _ x6 (pt_well x6) well_fit
   rw [emp_w] at hc
   refine hc.mono ?_
   clear hc c0 c1 c2 c3 g0 g1
   rintro e x7 ⟨rfl, hb⟩
   replace HT := Lib.hid (HT.out.moved hb)
   clear hb
   obtain ⟨c0, c1, c2, c3⟩ := HT.out.tw.cells
   obtain ⟨g0, g1⟩ := HT.out.cells
   go_wp2_with fail
   have hc := gramSame_any T0 T0 [] [] _ _ _ _ x7 HT.out.tw.m0.toks HT.out.tw.m0.toks (rules_nil x7) (rules_nil x7) (by decide) (by decide) (by decide) (by decide) T0_fit T0_fit rfit_nil rfit_nil
   rw [same_0] at hc
   refine hc.mono ?_
   clear hc c0 c1 c2 c3 g0 g1
   rintro e x8 ⟨rfl, hb⟩
   replace HT := Lib.hid (HT.out.moved hb)
   clear hb
   obtain ⟨c0, c1, c2, c3⟩ := HT.out.tw.cells
   obtain ⟨g0, g1⟩ := HT.out.cells
   go_wp2_with fail
   have hc := gramSame_any T0 (T0 ++ [tkA]) [] [] _ _ _ _ x8 HT.out.tw.m0.toks HT.out.th (rules_nil x8) (rules_nil x8) (by decide) (by decide) (by decide) (by decide) T0_fit TH_fit rfit_nil rfit_nil
   rw [same_h] at hc
   refine hc.mono ?_
   clear hc c0 c1 c2 c3 g0 g1
   rintro e x9 ⟨rfl, hb⟩
   replace HT := Lib.hid (HT.out.moved hb)
   clear hb
   go_wp2_with fail
   simp [bodyPost, results, Try.results8, go_sem]
   exact HT.out.tw.m0.bel
end Go.Proofs.Ytkmnigoikkffnaa
