/- goboref6: Rules, Cells. -/
import Derived.Test.YtmgfpcblbbpahaaGreatNfRdoc
import Derived.Deep.QuietTactic
import Derived.BigQuiet
set_option linter.unusedVariables false
set_option linter.unusedSimpArgs false
namespace Go.Proofs.YtmgfpcblbbpahaaGreat
open Go.RowKit Ru Rn Rn.Ru

def dnIn (S : List (List Pc)) (r : Int) (o f : List Int) : List Int := f.foldl (fun o y => if has (S.getD y.toNat []) r = true then insD y o else o) o
def dnOut (S : List (List Pc)) (F : List (List Int)) (r : Int) (l : List Int) : List Int := l.foldl (fun o x => if 0 ≤ x ∧ x < (S.length : Int) then dnIn S r o (F.getD x.toNat []) else o) []
def DnOk (n : Nat) (o : List Int) : Prop := Ris (-1) o ∧ ∀ z ∈ o, z < (n : Int)
theorem ris_few (n : Nat) : ∀ (l : List Int) (b : Int), Ris b l → (∀ z ∈ l, z < (n : Int)) → b < (n : Int) → (l.length : Int) ≤ (n : Int) - b - 1
  | [], b, _, _, hb => by simp; omega
  | x :: l, b, h, hz, hb => by
    have hx := hz x (by simp)
    have := ris_few n l x h.2 (fun z hzl => hz z (by simp [hzl])) hx
    have := h.1
    simp only [List.length_cons, Int.natCast_add, Int.cast_ofNat_Int]; omega
theorem DnOk.len {n : Nat} {o : List Int} (h : DnOk n o) : o.length ≤ n := by
  have := ris_few n o (-1) h.1 h.2 (by omega); omega
theorem DnOk.nil (n : Nat) : DnOk n [] := ⟨trivial, fun z hz => by simp at hz⟩
theorem DnOk.ins {n : Nat} {o : List Int} (h : DnOk n o) {y : Int} (hy : 0 ≤ y ∧ y < (n : Int)) : DnOk n (insD y o) :=
  ⟨ris_insD y o (-1) (by omega) h.1, fun z hz => by rcases (mem_insD y z o).1 hz with rfl | h2; exact hy.2; exact h.2 z h2⟩
theorem dnIn_ok (n : Nat) (S : List (List Pc)) (r : Int) : ∀ (f o : List Int), DnOk n o → (∀ y ∈ f, 0 ≤ y ∧ y < (n : Int)) → DnOk n (dnIn S r o f)
  | [], o, h, _ => h
  | y :: f, o, h, hf => by
    have hy := hf y (by simp)
    unfold dnIn
    rw [List.foldl_cons]
    refine dnIn_ok n S r f _ ?_ (fun z hz => hf z (by simp [hz]))
    split
    · exact h.ins hy
    · exact h
theorem dnIn_next (S : List (List Pc)) (r : Int) (o f : List Int) (k : Nat) (h : k < f.length) : dnIn S r o (f.take (k + 1)) = if has (S.getD (f.getD k 0).toNat []) r = true then insD (f.getD k 0) (dnIn S r o (f.take k)) else dnIn S r o (f.take k) := by
  have e : f.getD k 0 = f[k] := by simp [List.getD, List.getElem?_eq_getElem h]
  rw [e]
  unfold dnIn
  rw [List.take_add_one, List.getElem?_eq_getElem h, List.foldl_append]
  rfl
theorem dnOut_next (S : List (List Pc)) (F : List (List Int)) (r : Int) (l : List Int) (k : Nat) (h : k < l.length) : dnOut S F r (l.take (k + 1)) = if 0 ≤ l.getD k 0 ∧ l.getD k 0 < (S.length : Int) then dnIn S r (dnOut S F r (l.take k)) (F.getD (l.getD k 0).toNat []) else dnOut S F r (l.take k) := by
  have e : l.getD k 0 = l[k] := by simp [List.getD, List.getElem?_eq_getElem h]
  rw [e]
  unfold dnOut
  rw [List.take_add_one, List.getElem?_eq_getElem h, List.foldl_append]
  rfl
theorem dnOut_ok (S : List (List Pc)) (F : List (List Int)) (r : Int) (hF : ∀ f ∈ F, ∀ y ∈ f, 0 ≤ y ∧ y < (S.length : Int)) (l : List Int) : ∀ k, k ≤ l.length → DnOk S.length (dnOut S F r (l.take k))
  | 0, _ => DnOk.nil _
  | k + 1, hk => by
    rw [dnOut_next S F r l k (by omega)]
    have ih := dnOut_ok S F r hF l k (by omega)
    split
    · refine dnIn_ok _ S r _ _ ih fun y hy => ?_
      rw [List.getD_eq_getElem?_getD] at hy
      cases e : F[(l.getD k 0).toNat]? with
      | none => rw [e] at hy; simp at hy
      | some f => rw [e] at hy; exact hF f (List.mem_of_getElem? e) y hy
    · exact ih

structure RIs (w : World) (pb : Nat) (S : List (List Pc)) (O : List Int) (L : List Bool) (F : List (List Int)) (Em : List Bool) (so oo lo fo eo : Option Addr) (sc oc lc fc ec : Nat) (ss fs : List Value) : Prop where
  lt : pb < w.heap.size
  c0 : w.cell? ⟨pb, 0, none⟩ = some (.slice so S.length sc)
  c1 : w.cell? ⟨pb, 1, none⟩ = some (.slice oo O.length oc)
  c3 : w.cell? ⟨pb, 3, none⟩ = some (.slice lo L.length lc)
  c4 : w.cell? ⟨pb, 4, none⟩ = some (.slice fo F.length fc)
  c5 : w.cell? ⟨pb, 5, none⟩ = some (.slice eo Em.length ec)
  sets : RowsR w (.slice so S.length sc) ss S
  ofs : Row w (.slice oo O.length oc) O.length (ints1 O)
  last : Row w (.slice lo L.length lc) L.length (L.map Value.bool)
  fol : RowsN w (.slice fo F.length fc) fs F
  emp : Row w (.slice eo Em.length ec) Em.length (Em.map Value.bool)
  lenO : O.length = S.length
  lenL : L.length = S.length
  lenF : F.length = S.length
  few : S.length ≤ 1000
  short : (∀ s ∈ S, s.length ≤ 1000) ∧ (∀ r ∈ F, r.length ≤ 1000)
  fit : ∀ r ∈ F, ∀ x ∈ r, 0 ≤ x ∧ x < (S.length : Int)
  lenE : Em.length ≤ 100
  fitO : ∀ p, 0 < p → p < S.length → 0 ≤ O.getD p 0 ∧ O.getD p 0 < (Em.length : Int)
theorem RIs.moved {w w' : World} {pb : Nat} {S : List (List Pc)} {O : List Int} {L : List Bool} {F : List (List Int)} {Em : List Bool} {so oo lo fo eo : Option Addr} {sc oc lc fc ec : Nat} {ss fs : List Value}
    (h : RIs w pb S O L F Em so oo lo fo eo sc oc lc fc ec ss fs) (hb : Below w.heap.size w w') : RIs w' pb S O L F Em so oo lo fo eo sc oc lc fc ec ss fs :=
  ⟨Nat.lt_of_lt_of_le h.lt hb.size, (hb.cell (p := ⟨pb, 0, none⟩) h.lt).trans h.c0, (hb.cell (p := ⟨pb, 1, none⟩) h.lt).trans h.c1, (hb.cell (p := ⟨pb, 3, none⟩) h.lt).trans h.c3, (hb.cell (p := ⟨pb, 4, none⟩) h.lt).trans h.c4, (hb.cell (p := ⟨pb, 5, none⟩) h.lt).trans h.c5,
   rowsR_moved h.sets hb, h.ofs.below hb, h.last.below hb, h.fol.moved hb, h.emp.below hb, h.lenO, h.lenL, h.lenF, h.few, h.short, h.fit, h.lenE, h.fitO⟩

set_option maxRecDepth 100000 in
set_option maxHeartbeats 8000000 in
theorem rnext_any {w : World} {pb : Nat} {S : List (List Pc)} {O : List Int} {L : List Bool} {F : List (List Int)} {Em : List Bool} {so oo lo fo eo : Option Addr} {sc oc lc fc ec : Nat} {ss fs : List Value}
    (h : RIs w pb S O L F Em so oo lo fo eo sc oc lc fc ec ss fs) (l : List Int) (v : Value) (hl : Row w v l.length (ints1 l)) (hll : l.length ≤ 4000) (r : Int) :
    Calls Tryz.prog 22 #[.pointer (some ⟨pb, 0, none⟩), v, .int .i32 r] w fun e w' =>
      ∃ u, e = .returned u ∧ w'.ownsRow w.heap.size 3 1 u (dnOut S F r l).length (ints1 (dnOut S F r l)) ∧ Below w.heap.size w w' := by
  obtain ⟨o, c, rfl⟩ := Row.form hl
  have HM := Lib.hid h
  have HL := Lib.hid hl
  have hfew := h.few
  clear h hl
  go_enter Tryz.func22, Tryz.ntmps22
  go_wp2_with fail
  go_loopg [7, 8] l.length (fun g s7 s8 wx => ∃ k : Nat, k + g = l.length ∧ s8 = .int .i64 (k : Int) ∧ wx.ownsRow w.heap.size 3 1 s7 (dnOut S F r (l.take k)).length (ints1 (dnOut S F r (l.take k))) ∧ Below w.heap.size w wx)
  case atStart => exact ⟨0, by omega, rfl, World.ownsRow_nil _ _ _ _, Below.refl _ _⟩
  case round =>
    obtain ⟨k, hk, rfl, hown, hbel⟩ := hrel
    by_cases hlt : k < l.length
    · obtain ⟨g1, hg1⟩ : ∃ g1, g1 + 1 = gk := ⟨gk - 1, by omega⟩
      have hd : (k : Int) < (l.length : Int) := by omega
      have hs := dnOut_next S F r l k hlt
      have hok := dnOut_ok S F r HM.out.fit l k (by omega)
      obtain ⟨x, hx⟩ : ∃ x, x = l.getD k 0 := ⟨_, rfl⟩
      obtain ⟨D, hD⟩ : ∃ D, D = dnOut S F r (l.take k) := ⟨_, rfl⟩
      rw [← hx, ← hD] at hs
      rw [← hD] at hown hok
      obtain ⟨lb, lf, rfl, hbl, hcl⟩ := adrow_at HL.out (i := k) (u := .int .i64 x) (by rw [getElem?_ints hlt, hx]) hlt
      have hcx : wr.cell? ⟨lb, lf + k, none⟩ = some (.int .i64 x) := (hbel.cell (p := ⟨lb, lf + k, none⟩) hbl).trans hcl
      have h1 := HM.out.moved hbel
      have hc0 := h1.c0
      have hc4 := h1.c4
      have HW := Lib.hid h1
      have HS := Lib.hid hs
      have HOK := Lib.hid hok
      have HOW := Lib.hid hown
      have HBE := Lib.hid hbel
      clear hs hx hD hown hbel hok h1 hcl
      by_cases hneg : x < 0
      · have dn : decide (x < 0) = true := decide_eq_true hneg
        go_upto_region 5 with (fail)
        go_quiet (fail)
        go_wp2_with fail
        go_roundg g1
        case measure => omega
        case rel => exact ⟨k + 1, by omega, by simp, by rw [HS.out, if_neg (fun h => by omega)]; exact owns_below HOW.out (below_drewN (Below.refl _ _) _), below_drewN HBE.out _⟩
      · obtain ⟨m, rfl⟩ : ∃ m : Nat, x = (m : Int) := ⟨x.toNat, by omega⟩
        have dn : decide ((m : Int) < 0) = false := decide_eq_false hneg
        by_cases hge : S.length ≤ m
        · have dg : decide ((S.length : Int) ≤ (m : Int)) = true := decide_eq_true (by omega)
          have dg2 : decide ((m : Int) ≥ (S.length : Int)) = true := decide_eq_true (by omega)
          go_upto_region 5 with (fail)
          go_quiet (fail)
          go_wp2_with fail
          go_roundg g1
          case measure => omega
          case rel => exact ⟨k + 1, by omega, by simp, by rw [HS.out, if_neg (fun h => by omega)]; exact owns_below HOW.out (below_drewN (Below.refl _ _) _), below_drewN HBE.out _⟩
        · have hm : m < S.length := by omega
          have dg : decide ((S.length : Int) ≤ (m : Int)) = false := decide_eq_false (by omega)
          have dg2 : decide ((m : Int) ≥ (S.length : Int)) = false := decide_eq_false (by omega)
          obtain ⟨fb, ff, rfl, hfl, hfc⟩ := row_at HM.out.fol.2.1 (getD_get (by rw [HM.out.fol.1, HM.out.lenF]; exact hm)) (by rw [HM.out.lenF]; exact hm)
          have hfr := HM.out.fol.2.2 m (by rw [HW.out.lenF]; exact hm)
          obtain ⟨fu, hfu⟩ : ∃ u, u = fs.getD m undef := ⟨_, rfl⟩
          obtain ⟨f, hf⟩ : ∃ f, f = F.getD m [] := ⟨_, rfl⟩
          rw [← hfu] at hfc hfr
          rw [← hf] at hfr
          have hfm : f ∈ F := by rw [hf]; simp [List.getD, List.getElem?_eq_getElem (show m < F.length by rw [HW.out.lenF]; exact hm)]
          have hff := HW.out.fit f hfm
          have hfn := HW.out.short.2 f hfm
          obtain ⟨ofv, cfv, rfl⟩ := Row.form hfr
          have hfcw := (HBE.out.cell (p := ⟨fb, ff + m, none⟩) hfl).trans hfc
          have hsx := HS.out
          rw [if_pos ⟨by omega, by omega⟩, Int.toNat_natCast, ← hf] at hsx
          have HX := Lib.hid hsx
          have HF := Lib.hid hfr
          have HFF := Lib.hid hff
          have dml : (m : Int) < (F.length : Int) := by have := HW.out.lenF; omega
          clear hsx hfr hff hfu hf hfm hfc
          go_upto_region 5 with (fail)
          go_quiet (fail)
          go_upto_region 6 with (fail)
          go_quiet (fail)
          go_wp2_with fail
          go_loopg [7, 10] f.length (fun g s7 s10 wi => ∃ j : Nat, j + g = f.length ∧ s10 = .int .i64 (j : Int) ∧ wi.ownsRow w.heap.size 3 1 s7 (dnIn S r D (f.take j)).length (ints1 (dnIn S r D (f.take j))) ∧ Below w.heap.size w wi)
          case atStart => exact ⟨0, by omega, rfl, by first | exact HOW.out | exact owns_below HOW.out (below_drewN (Below.refl _ _) _), by first | exact HBE.out | exact below_drewN HBE.out _⟩
          case round =>
            obtain ⟨j, hj, rfl, howi, hbi⟩ := hrel
            have hoki := dnIn_ok S.length S r (f.take j) D HOK.out (fun y hy => HFF.out y (List.mem_of_mem_take hy))
            by_cases hjf : j < f.length
            · obtain ⟨g2, hg2⟩ : ∃ g2, g2 + 1 = gk := ⟨gk - 1, by omega⟩
              have hdj : (j : Int) < (f.length : Int) := by omega
              have hnx := dnIn_next S r D f j hjf
              obtain ⟨y, hy⟩ : ∃ y, y = f.getD j 0 := ⟨_, rfl⟩
              obtain ⟨E, hE⟩ : ∃ E, E = dnIn S r D (f.take j) := ⟨_, rfl⟩
              rw [← hy, ← hE] at hnx
              rw [← hE] at howi hoki
              obtain ⟨gb, gf, rfl, hgl, hgc⟩ := adrow_at HF.out (i := j) (u := .int .i64 y) (by rw [getElem?_ints hjf, hy]) hjf
              have hyb := HFF.out y (by rw [hy]; simp [List.getD, List.getElem?_eq_getElem hjf])
              obtain ⟨p, rfl⟩ : ∃ p : Nat, y = (p : Int) := ⟨y.toNat, by omega⟩
              have hp : p < S.length := by omega
              have hdp : (p : Int) < (S.length : Int) := hyb.2
              have hgy : wr.cell? ⟨gb, gf + j, none⟩ = some (.int .i64 (p : Int)) := (hbi.cell (p := ⟨gb, gf + j, none⟩) hgl).trans hgc
              have hd0 := (hbi.cell (p := ⟨pb, 0, none⟩) HM.out.lt).trans HM.out.c0
              obtain ⟨sb', sf, rfl, hsl, hsc⟩ := row_at HM.out.sets.2.1 (getD_get (by rw [HM.out.sets.1]; exact hp)) hp
              have hsw := (hbi.cell (p := ⟨sb', sf + p, none⟩) hsl).trans hsc
              have hrow := HM.out.sets.2.2 p hp
              obtain ⟨su, hsu⟩ : ∃ u, u = ss.getD p undef := ⟨_, rfl⟩
              rw [Int.toNat_natCast] at hnx
              obtain ⟨q, hq⟩ : ∃ q, q = S.getD p [] := ⟨_, rfl⟩
              have hql : q.length ≤ 1000 := HM.out.short.1 q (by rw [hq]; simp [List.getD, List.getElem?_eq_getElem hp])
              rw [← hsu] at hsw hrow
              rw [← hq] at hnx hrow
              obtain ⟨z, hz⟩ : ∃ z, z = has q r := ⟨_, rfl⟩
              have hhas : ∀ X : World, Below w.heap.size w X → Calls Tryz.prog 49 #[su, .int .i32 r] X fun e w' => e = .returned (.bool z) ∧ w' = X := fun X hX => by rw [hz]; exact refHas_any q r su X (hrow.below hX) (by omega)
              rw [← hz] at hnx
              have HH := Lib.hid hhas
              have HN := Lib.hid hnx
              have HOI := Lib.hid howi
              have HBI := Lib.hid hbi
              have hEl := hoki.len
              clear hhas hnx howi hbi hy hE hsu hq hz hoki hgc hsc hrow
              cases z with
              | false =>
                go_upto_region 10 with (fail)
                go_quiet ((go_at_call 49; exact Calls.quiet_of_same (HH.out _ (by repeat (first | exact HBI.out | (refine Below.drew ?_) | (refine below_drewN ?_ _))))))
                go_wp2_with fail
                go_roundg g2
                case measure => omega
                case rel => exact ⟨j + 1, by omega, by simp, by rw [HN.out, if_neg (by simp)]; first | exact HOI.out | exact owns_below HOI.out (below_drewN (Below.refl _ _) _), by first | exact HBI.out | exact below_drewN HBI.out _⟩
              | true =>
                go_upto_region 10 with (fail)
                go_quiet ((go_at_call 49; exact Calls.quiet_of_same (HH.out _ (by repeat (first | exact HBI.out | (refine Below.drew ?_) | (refine below_drewN ?_ _))))))
                go_wp2_with (go_at_call 46; refine (radd_any E [(p : Int)] _ _ _ (Row.owned (owns_below HOI.out (by repeat (first | exact Below.refl _ _ | (refine bel_new ?_ _) | (refine Below.drew ?_) | (refine below_drewN ?_ _))))) (by first | exact rowOne _ _ _ _ rfl | exact rowOneD _ _ _ _ rfl) (by omega) (by simp)).mono ?_; rintro e w2 ⟨u2, rfl, hu2, hb2⟩; have hB2 : Below w.heap.size w w2 := bel_then (by repeat (first | exact HBI.out | (refine bel_new ?_ _) | (refine Below.drew ?_) | (refine below_drewN ?_ _))) hb2; have hU2 := owns_base hu2 (show Below w.heap.size w _ from (by repeat (first | exact HBI.out | (refine bel_new ?_ _) | (refine Below.drew ?_) | (refine below_drewN ?_ _)))).size; clear hu2 hb2)
                go_roundg g2
                case measure => omega
                case rel => exact ⟨j + 1, by omega, by simp, by rw [HN.out, if_pos (by simp)]; exact hU2, hB2⟩
            · obtain rfl : j = f.length := by omega
              rw [List.take_length] at howi
              have HOI := Lib.hid howi
              have HBI := Lib.hid hbi
              clear howi hbi
              go_wp2_with fail
              go_roundg g1
              case measure => omega
              case rel => exact ⟨k + 1, by omega, by simp, by rw [HX.out]; first | exact HOI.out | exact owns_below HOI.out (below_drewN (Below.refl _ _) _), by first | exact HBI.out | exact below_drewN HBI.out _⟩
    · obtain rfl : k = l.length := by omega
      rw [List.take_length] at hown
      have HOW := Lib.hid hown
      have HBE := Lib.hid hbel
      clear hown hbel
      go_wp2_with fail
      go_ret
      exact ⟨_, rfl, HOW.out, HBE.out⟩
end Go.Proofs.YtmgfpcblbbpahaaGreat

namespace Go.Proofs.YtmgfpcblbbpahaaGreat
open Go.RowKit Ru Rn Rn.Ru

def rlEm (Em : List Bool) (o : List Int) (n : Nat) : List Int := (List.range n).foldl (fun o k => if Em.getD k false = true then insD (k : Int) o else o) o
def rlOne (n : Nat) (O : List Int) (L : List Bool) (o : List Int) (p : Int) : List Int := if 0 < p ∧ p < (n : Int) ∧ L.getD p.toNat false = true then insD (O.getD p.toNat 0) o else o
def rlStep (n : Nat) (O : List Int) (L Em : List Bool) (o : List Int) (p : Int) : List Int := if p = 0 then rlEm Em (rlOne n O L o p) Em.length else rlOne n O L o p
def rlOut (n : Nat) (O : List Int) (L Em : List Bool) (l : List Int) : List Int := l.foldl (rlStep n O L Em) []
theorem rlEm_next (Em : List Bool) (o : List Int) (k : Nat) : rlEm Em o (k + 1) = if Em.getD k false = true then insD (k : Int) (rlEm Em o k) else rlEm Em o k := by
  unfold rlEm
  rw [List.range_succ, List.foldl_append]
  rfl
theorem rlOut_next (n : Nat) (O : List Int) (L Em : List Bool) (l : List Int) (k : Nat) (h : k < l.length) : rlOut n O L Em (l.take (k + 1)) = rlStep n O L Em (rlOut n O L Em (l.take k)) (l.getD k 0) := by
  have e : l.getD k 0 = l[k] := by simp [List.getD, List.getElem?_eq_getElem h]
  rw [e]
  unfold rlOut
  rw [List.take_add_one, List.getElem?_eq_getElem h, List.foldl_append]
  rfl
theorem rlEm_ok (Em : List Bool) (o : List Int) (h : DnOk Em.length o) : ∀ k, k ≤ Em.length → DnOk Em.length (rlEm Em o k)
  | 0, _ => h
  | k + 1, hk => by
    rw [rlEm_next]
    have ih := rlEm_ok Em o h k (by omega)
    split
    · exact ih.ins ⟨by omega, by omega⟩
    · exact ih
theorem rlOne_ok (n m : Nat) (O : List Int) (L : List Bool) (o : List Int) (p : Int) (h : DnOk m o) (hO : ∀ p, 0 < p → p < n → 0 ≤ O.getD p 0 ∧ O.getD p 0 < (m : Int)) : DnOk m (rlOne n O L o p) := by
  unfold rlOne
  split
  · rename_i hp
    exact h.ins (hO p.toNat (by omega) (by omega))
  · exact h
theorem rlOut_ok (n : Nat) (O : List Int) (L Em : List Bool) (hO : ∀ p, 0 < p → p < n → 0 ≤ O.getD p 0 ∧ O.getD p 0 < (Em.length : Int)) (l : List Int) : ∀ k, k ≤ l.length → DnOk Em.length (rlOut n O L Em (l.take k))
  | 0, _ => DnOk.nil _
  | k + 1, hk => by
    rw [rlOut_next n O L Em l k (by omega)]
    have ih := rlOut_ok n O L Em hO l k (by omega)
    unfold rlStep
    split
    · exact rlEm_ok Em _ (rlOne_ok n _ O L _ _ ih hO) _ (Nat.le_refl _)
    · exact rlOne_ok n _ O L _ _ ih hO
theorem bools_get (L : List Bool) {p : Nat} (h : p < L.length) : (L.map Value.bool)[p]? = some (.bool (L.getD p false)) := by
  rw [List.getElem?_map, List.getElem?_eq_getElem h]; simp [List.getD, List.getElem?_eq_getElem h]

set_option maxRecDepth 100000 in
set_option maxHeartbeats 8000000 in
theorem rrules_any {w : World} {pb : Nat} {S : List (List Pc)} {O : List Int} {L : List Bool} {F : List (List Int)} {Em : List Bool} {so oo lo fo eo : Option Addr} {sc oc lc fc ec : Nat} {ss fs : List Value}
    (h : RIs w pb S O L F Em so oo lo fo eo sc oc lc fc ec ss fs) (l : List Int) (v : Value) (hl : Row w v l.length (ints1 l)) (hll : l.length ≤ 4000) :
    Calls Tryz.prog 23 #[.pointer (some ⟨pb, 0, none⟩), v] w fun e w' =>
      ∃ u, e = .returned u ∧ w'.ownsRow w.heap.size 3 1 u (rlOut S.length O L Em l).length (ints1 (rlOut S.length O L Em l)) ∧ Below w.heap.size w w' := by
  obtain ⟨o, c, rfl⟩ := Row.form hl
  have HM := Lib.hid h
  have HL := Lib.hid hl
  have hfew := h.few
  have hfe := h.lenE
  clear h hl
  go_enter Tryz.func23, Tryz.ntmps23
  go_wp2_with fail
  go_loopg [5, 6] l.length (fun g s5 s6 wx => ∃ k : Nat, k + g = l.length ∧ s6 = .int .i64 (k : Int) ∧ wx.ownsRow w.heap.size 3 1 s5 (rlOut S.length O L Em (l.take k)).length (ints1 (rlOut S.length O L Em (l.take k))) ∧ Below w.heap.size w wx)
  case atStart => exact ⟨0, by omega, rfl, World.ownsRow_nil _ _ _ _, Below.refl _ _⟩
  case round =>
    obtain ⟨k, hk, rfl, hown, hbel⟩ := hrel
    by_cases hlt : k < l.length
    · obtain ⟨g1, hg1⟩ : ∃ g1, g1 + 1 = gk := ⟨gk - 1, by omega⟩
      have hd : (k : Int) < (l.length : Int) := by omega
      have hs := rlOut_next S.length O L Em l k hlt
      have hok := rlOut_ok S.length O L Em HM.out.fitO l k (by omega)
      obtain ⟨x, hx⟩ : ∃ x, x = l.getD k 0 := ⟨_, rfl⟩
      obtain ⟨D, hD⟩ : ∃ D, D = rlOut S.length O L Em (l.take k) := ⟨_, rfl⟩
      rw [← hx, ← hD] at hs
      rw [← hD] at hown hok
      have hok1 := rlOne_ok S.length Em.length O L D x hok HM.out.fitO
      obtain ⟨D1, hD1⟩ : ∃ D1, D1 = rlOne S.length O L D x := ⟨_, rfl⟩
      have hs2 : rlOut S.length O L Em (l.take (k + 1)) = if x = 0 then rlEm Em D1 Em.length else D1 := by rw [hs, hD1]; rfl
      have hD1u : D1 = if 0 < x ∧ x < (S.length : Int) ∧ L.getD x.toNat false = true then insD (O.getD x.toNat 0) D else D := by rw [hD1]; rfl
      rw [← hD1] at hok1
      obtain ⟨lb, lf, rfl, hbl, hcl⟩ := adrow_at HL.out (i := k) (u := .int .i64 x) (by rw [getElem?_ints hlt, hx]) hlt
      have hcx : wr.cell? ⟨lb, lf + k, none⟩ = some (.int .i64 x) := (hbel.cell (p := ⟨lb, lf + k, none⟩) hbl).trans hcl
      have h1 := HM.out.moved hbel
      have hc0 := h1.c0
      have hc1 := h1.c1
      have hc3 := h1.c3
      have HS := Lib.hid hs2
      have HD1 := Lib.hid hD1u
      have HOK1 := Lib.hid hok1
      have HOW := Lib.hid hown
      have HBE := Lib.hid hbel
      have hDl := hok.len
      clear hs hs2 hD1 hD1u hx hD hown hbel hok hok1 h1 hcl
      go_upto_region 6 with (fail)
      obtain ⟨q, hq⟩ : ∃ q : Bool, q = decide (0 < x ∧ x < (S.length : Int) ∧ L.getD x.toNat false = true) := ⟨_, rfl⟩
      have HQ := Lib.hid hq
      clear hq
      go_cut [38] from 19 to 72 (fun s38 wx => s38 = .bool q ∧ wx = wr)
      case first =>
        by_cases hpos : 0 < x
        · obtain ⟨m, rfl⟩ : ∃ m : Nat, x = (m : Int) := ⟨x.toNat, by omega⟩
          rw [Int.toNat_natCast] at HQ
          have dn : decide ((m : Int) > 0) = true := decide_eq_true hpos
          have dn2 : decide (0 < (m : Int)) = true := decide_eq_true hpos
          by_cases hm : m < S.length
          · have dg : decide ((m : Int) < (S.length : Int)) = true := decide_eq_true (by omega)
            obtain ⟨tb, tf, rfl, htl, htc⟩ := row_at HM.out.last (bools_get L (p := m) (by rw [HM.out.lenL]; exact hm)) (by rw [HM.out.lenL]; exact hm)
            have htw := (HBE.out.cell (p := ⟨tb, tf + m, none⟩) htl).trans htc
            have dml : (m : Int) < (L.length : Int) := by have := HM.out.lenL; omega
            obtain ⟨z, hz⟩ : ∃ z, z = L.getD m false := ⟨_, rfl⟩
            rw [← hz] at htw HQ
            clear htc hz
            go_wp2_with fail
            go_meet
            exact ⟨by rw [HQ.out]; cases z <;> simp <;> omega, rfl⟩
          · have dg : decide ((m : Int) < (S.length : Int)) = false := decide_eq_false (by omega)
            go_wp2_with fail
            go_meet
            exact ⟨by rw [HQ.out, decide_eq_false (fun h => by omega)], rfl⟩
        · have dn : decide (x > 0) = false := decide_eq_false hpos
          have dn2 : decide (0 < x) = false := decide_eq_false hpos
          go_wp2_with fail
          go_meet
          exact ⟨by rw [HQ.out, decide_eq_false (fun h => by omega)], rfl⟩
      case rest =>
        obtain ⟨rfl, hwc⟩ := hcut
        subst hwc
        go_upto_if 38 with (fail)
        go_cut [5] from 39 to 72 (fun s5 wx => wx.ownsRow w.heap.size 3 1 s5 D1.length (ints1 D1) ∧ Below w.heap.size w wx)
        case first =>
          cases q with
          | false =>
            go_wp2_with fail
            go_meet
            exact ⟨by rw [HD1.out, if_neg (fun h => by have := HQ.out; rw [decide_eq_true h] at this; simp at this)]; exact HOW.out, HBE.out⟩
          | true =>
            have hq3 := of_decide_eq_true HQ.out.symm
            obtain ⟨m, rfl⟩ : ∃ m : Nat, x = (m : Int) := ⟨x.toNat, by omega⟩
            have hm : m < S.length := by omega
            obtain ⟨ob, of', rfl, hol, hoc⟩ := adrow_at HM.out.ofs (i := m) (u := .int .i64 (O.getD m 0)) (by rw [getElem?_ints (by rw [HM.out.lenO]; exact hm)]) (by rw [HM.out.lenO]; exact hm)
            have hoc2 := (HBE.out.cell (p := ⟨ob, of' + m, none⟩) hol).trans hoc
            have dmo : (m : Int) < (O.length : Int) := by have := HM.out.lenO; omega
            have hD3 := HD1.out
            rw [if_pos hq3, Int.toNat_natCast] at hD3
            obtain ⟨y, hy⟩ : ∃ y, y = O.getD m 0 := ⟨_, rfl⟩
            rw [← hy] at hoc2 hD3
            have HD3 := Lib.hid hD3
            clear hoc hy hD3 hq3
            go_wp2_with (go_at_call 46; refine (radd_any D [y] _ _ _ (Row.owned (owns_below HOW.out (by repeat (first | exact Below.refl _ _ | (refine bel_new ?_ _) | (refine Below.drew ?_) | (refine below_drewN ?_ _))))) (by first | exact rowOne _ _ _ _ rfl | exact rowOneD _ _ _ _ rfl) (by omega) (by simp)).mono ?_; rintro e w2 ⟨u2, rfl, hu2, hb2⟩; have hB2 : Below w.heap.size w w2 := bel_then (by repeat (first | exact HBE.out | (refine bel_new ?_ _) | (refine Below.drew ?_) | (refine below_drewN ?_ _))) hb2; have hU2 := owns_base hu2 (show Below w.heap.size w _ from (by repeat (first | exact HBE.out | (refine bel_new ?_ _) | (refine Below.drew ?_) | (refine below_drewN ?_ _)))).size; clear hu2 hb2)
            go_meet
            exact ⟨by rw [HD3.out]; exact hU2, hB2⟩
        case rest =>
          obtain ⟨hcr, hcb⟩ := hcut
          have HOW2 := Lib.hid hcr
          have HBE2 := Lib.hid hcb
          have hc5 := (hcb.cell (p := ⟨pb, 5, none⟩) HM.out.lt).trans HM.out.c5
          clear hcr hcb
          by_cases hx0 : x = 0
          · subst hx0
            have hsx := HS.out
            rw [if_pos rfl] at hsx
            have HX := Lib.hid hsx
            clear hsx
            go_wp2_with fail
            go_loopg [5, 8] Em.length (fun g s5 s8 wi => ∃ j : Nat, j + g = Em.length ∧ s8 = .int .i64 (j : Int) ∧ wi.ownsRow w.heap.size 3 1 s5 (rlEm Em D1 j).length (ints1 (rlEm Em D1 j)) ∧ Below w.heap.size w wi)
            case atStart => exact ⟨0, by omega, rfl, HOW2.out, HBE2.out⟩
            case round =>
              obtain ⟨j, hj, rfl, howi, hbi⟩ := hrel
              have hd5 := (hbi.cell (p := ⟨pb, 5, none⟩) HM.out.lt).trans HM.out.c5
              have hoki := rlEm_ok Em D1 HOK1.out j (by omega)
              have HOI := Lib.hid howi
              have HBI := Lib.hid hbi
              clear howi hbi
              by_cases hjf : j < Em.length
              · obtain ⟨g2, hg2⟩ : ∃ g2, g2 + 1 = gk := ⟨gk - 1, by omega⟩
                have hdj : (j : Int) < (Em.length : Int) := by omega
                have hnx := rlEm_next Em D1 j
                obtain ⟨eb, ef, rfl, hel, hec⟩ := row_at HM.out.emp (bools_get Em hjf) hjf
                have hew := (HBI.out.cell (p := ⟨eb, ef + j, none⟩) hel).trans hec
                obtain ⟨z, hz⟩ : ∃ z, z = Em.getD j false := ⟨_, rfl⟩
                obtain ⟨E, hE⟩ : ∃ E, E = rlEm Em D1 j := ⟨_, rfl⟩
                rw [← hz] at hew hnx
                rw [← hE] at hnx HOI hoki
                have HN := Lib.hid hnx
                have hEl := hoki.len
                clear hec hz hE hnx hoki
                cases z with
                | false =>
                  go_wp2_with fail
                  go_roundg g2
                  case measure => omega
                  case rel => exact ⟨j + 1, by omega, by simp, by rw [HN.out, if_neg (by simp)]; exact HOI.out, HBI.out⟩
                | true =>
                  go_wp2_with (go_at_call 46; refine (radd_any E [(j : Int)] _ _ _ (Row.owned (owns_below HOI.out (by repeat (first | exact Below.refl _ _ | (refine bel_new ?_ _) | (refine Below.drew ?_) | (refine below_drewN ?_ _))))) (by first | exact rowOne _ _ _ _ rfl | exact rowOneD _ _ _ _ rfl) (by omega) (by simp)).mono ?_; rintro e w2 ⟨u2, rfl, hu2, hb2⟩; have hB2 : Below w.heap.size w w2 := bel_then (by repeat (first | exact HBI.out | (refine bel_new ?_ _) | (refine Below.drew ?_) | (refine below_drewN ?_ _))) hb2; have hU2 := owns_base hu2 (show Below w.heap.size w _ from (by repeat (first | exact HBI.out | (refine bel_new ?_ _) | (refine Below.drew ?_) | (refine below_drewN ?_ _)))).size; clear hu2 hb2)
                  go_roundg g2
                  case measure => omega
                  case rel => exact ⟨j + 1, by omega, by simp, by rw [HN.out, if_pos (by simp)]; exact hU2, hB2⟩
              · obtain rfl : j = Em.length := by omega
                clear hoki
                go_wp2_with fail
                go_roundg g1
                case measure => omega
                case rel => exact ⟨k + 1, by omega, by simp, by rw [HX.out]; exact HOI.out, HBI.out⟩
          · have dx : (x == 0) = false := by simp [hx0]
            have hsx := HS.out
            rw [if_neg hx0] at hsx
            have HX := Lib.hid hsx
            clear hsx
            go_wp2_with fail
            go_loopg [5, 8] 0 (fun g s5 s8 wi => g = 0 ∧ s8 = .int .i64 0 ∧ wi.ownsRow w.heap.size 3 1 s5 D1.length (ints1 D1) ∧ Below w.heap.size w wi)
            case atStart => exact ⟨rfl, rfl, HOW2.out, HBE2.out⟩
            case round =>
              obtain ⟨hj, rfl, howi, hbi⟩ := hrel
              have hd5 := (hbi.cell (p := ⟨pb, 5, none⟩) HM.out.lt).trans HM.out.c5
              have HOI := Lib.hid howi
              have HBI := Lib.hid hbi
              clear howi hbi
              go_wp2_with fail
              all_goals
                go_roundg g1
                case measure => omega
                case rel => exact ⟨k + 1, by omega, by simp, by rw [HX.out]; exact HOI.out, HBI.out⟩
    · obtain rfl : k = l.length := by omega
      rw [List.take_length] at hown
      have HOW := Lib.hid hown
      have HBE := Lib.hid hbel
      clear hown hbel
      go_wp2_with fail
      go_ret
      exact ⟨_, rfl, HOW.out, HBE.out⟩

set_option maxRecDepth 100000 in
set_option maxHeartbeats 2000000 in
theorem rcells_any {w : World} {pb : Nat} {S : List (List Pc)} {O : List Int} {L : List Bool} {F : List (List Int)} {Em : List Bool} {so oo lo fo eo : Option Addr} {sc oc lc fc ec : Nat} {ss fs : List Value}
    (h : RIs w pb S O L F Em so oo lo fo eo sc oc lc fc ec ss fs) (hz : ∀ s ∈ S, i32s s) (ht : (S.flatMap pcs).length ≤ 40000) :
    Calls Tryz.prog 21 #[.pointer (some ⟨pb, 0, none⟩)] w fun e w' =>
      ∃ u, e = .returned u ∧ w'.ownsRow w.heap.size 54 2 u (cutsF S).length (flatK .i32 (cutsF S)) ∧ Below w.heap.size w w' := by
  have HC := Lib.hid (refCutsR_any S ss _ w h.sets hz h.few h.short.1 ht)
  have hc0 := h.c0
  clear h hz ht
  go_enter Tryz.func21, Tryz.ntmps21
  go_wp2_with (go_at_call 48; refine HC.out.mono ?_; rintro e w2 ⟨u, rfl, hu, hb⟩)
  go_ret
  exact ⟨_, rfl, hu, hb⟩
end Go.Proofs.YtmgfpcblbbpahaaGreat
