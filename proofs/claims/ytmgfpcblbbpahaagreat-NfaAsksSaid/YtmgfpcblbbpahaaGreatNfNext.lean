/- A machine in memory; nfa.Next, Rules, Len. -/
import Derived.Deep.LoopGhost
import Derived.Deep.RegionHeld3
import Derived.Deep.RegionLaw
import Derived.Test.YtmgfpcblbbpahaaGreatNfDel
import Derived.Test.YtmgfpcblbbpahaaGreatRnCuts
set_option linter.unusedVariables false
set_option linter.unusedSimpArgs false
namespace Go.Proofs.YtmgfpcblbbpahaaGreat
open Go.RowKit

theorem infoBool1 : ∃ i, Tryz.prog.info? 4 = some i ∧ i.zero = some (.bool false) ∧ i.size = 1 ∧ i.bytes = 1 := info_parts (by kernel_rfl)
def seenL (N : Nat) (l : List Int) : List Value := (List.range N).map fun j : Nat => .bool (decide ((j : Int) ∈ l))
theorem seenL_get {N j : Nat} (l : List Int) (h : j < N) : (seenL N l)[j]? = some (.bool (decide ((j : Int) ∈ l))) := by simp [seenL, h]
theorem seenL_nil (N : Nat) : (madeCells (Value.bool false).cells (N * 1)).toList = seenL N [] := by
  apply List.ext_getElem?
  intro j
  by_cases h : j < N
  · rw [seenL_get [] h]
    simp [madeCells, Value.cells, h, Nat.mod_one]
  · rw [List.getElem?_eq_none (by simp [madeCells]; omega), List.getElem?_eq_none (by simp [seenL]; omega)]
theorem seenL_set {N j : Nat} (l : List Int) (h : j < N) : (seenL N l).set j (.bool true) = seenL N ((j : Int) :: l) := by
  apply List.ext_getElem?
  intro i
  rw [List.getElem?_set]
  by_cases hi : i < N
  · rw [seenL_get _ hi, seenL_get _ hi]
    by_cases e : j = i
    · subst e; simp [seenL, h]
    · have : ¬ (i : Int) = (j : Int) := by omega
      simp [e, this]
  · rw [if_neg (by omega), List.getElem?_eq_none (by simp [seenL]; omega), List.getElem?_eq_none (by simp [seenL]; omega)]

structure GatAt (F : List (List Int)) (l : List Int) (w : World) (k : Nat) (v : Value) (wx : World) : Prop where
  seen : wx.ownsRow w.heap.size 4 1 (.slice (some ⟨w.heap.size, 0, none⟩) F.length F.length) F.length (seenL F.length (Nf.gatK F l k).2)
  out : wx.ownsRow (w.heap.size + 1) 3 1 v (Nf.gatK F l k).1.length (ints1 (Nf.gatK F l k).1)
  bel : Below w.heap.size w wx
  lt : w.heap.size < wx.heap.size
theorem GatAt.cell {F : List (List Int)} {l : List Int} {w wx : World} {k : Nat} {v : Value} (h : GatAt F l w k v wx) {m : Nat} (hm : m < F.length) : wx.cell? ⟨w.heap.size, m, none⟩ = some (.bool (decide ((m : Int) ∈ (Nf.gatK F l k).2))) ∧ wx.frozen? ⟨w.heap.size, m, none⟩ = false := by
  rcases h.seen.2 with ⟨h0, _⟩ | ⟨g, cap, cur, hv, hg, hb, hn, hc, hs, ht⟩
  · cases h0
  · cases hv
    refine ⟨?_, by simp [World.frozen?, hb]⟩
    have : (cur.toList.take (F.length * 1))[m]? = some (.bool (decide ((m : Int) ∈ (Nf.gatK F l k).2))) := by rw [ht]; exact seenL_get _ hm
    rw [List.getElem?_take_of_lt (by omega), Array.getElem?_toList] at this
    simp [World.cell?, hb, this]

theorem GatAt.same {F : List (List Int)} {l : List Int} {w wx : World} {k : Nat} {v : Value} (h : GatAt F l w k v wx) (e : Nf.gatK F l (k + 1) = Nf.gatK F l k) : GatAt F l w (k + 1) v wx :=
  ⟨by rw [e]; exact h.seen, by rw [e]; exact h.out, h.bel, h.lt⟩
theorem GatAt.mark {F : List (List Int)} {l : List Int} {w wx wm : World} {k m : Nat} {v : Value} (h : GatAt F l w k v wx) (hm : m < F.length) (e : wx.setCell ⟨w.heap.size, m, none⟩ (.bool true) = wm) :
    wm.ownsRow w.heap.size 4 1 (.slice (some ⟨w.heap.size, 0, none⟩) F.length F.length) F.length (seenL F.length ((m : Int) :: (Nf.gatK F l k).2)) ∧
    wm.ownsRow (w.heap.size + 1) 3 1 v (Nf.gatK F l k).1.length (ints1 (Nf.gatK F l k).1) ∧ Below w.heap.size w wm := by
  subst e
  refine ⟨?_, ownsRow_setCell_below h.out (by simp) _, h.bel.setCell (p := ⟨w.heap.size, m, none⟩) (Nat.le_refl _) _⟩
  rw [← seenL_set _ hm]
  exact afowns_turn _ h.seen

theorem GatAt.next {F : List (List Int)} {l : List Int} {w wm w9 : World} {k m : Nat} {v v9 : Value} {B : List Int}
    (h : wm.ownsRow w.heap.size 4 1 (.slice (some ⟨w.heap.size, 0, none⟩) F.length F.length) F.length (seenL F.length ((m : Int) :: (Nf.gatK F l k).2)) ∧
      wm.ownsRow (w.heap.size + 1) 3 1 v (Nf.gatK F l k).1.length (ints1 (Nf.gatK F l k).1) ∧ Below w.heap.size w wm)
    (e : Nf.gatK F l (k + 1) = ((Nf.gatK F l k).1 ++ B, (m : Int) :: (Nf.gatK F l k).2))
    (ho : wm.ownsRow (w.heap.size + 1) 3 1 v (Nf.gatK F l k).1.length (ints1 (Nf.gatK F l k).1))
    (h9 : w9.ownsRow (w.heap.size + 1) 3 1 v9 ((Nf.gatK F l k).1.length + B.length) (ints1 (Nf.gatK F l k).1 ++ ints1 B)) (hg : wm.grownBy w9 v.ownBlock) (hs : w.heap.size < wm.heap.size) : GatAt F l w (k + 1) v9 w9 := by
  refine ⟨?_, ?_, h.2.2.grown hg (Nat.le_of_lt hs) (fun j hj => by have := (ho.lt j hj).1; omega), Nat.lt_of_lt_of_le hs hg.size⟩
  · rw [e]
    refine h.1.kept hg (.inr ?_)
    intro hj
    have := (ho.lt w.heap.size (by rw [← hj]; rfl)).1
    omega
  · rw [e]
    simpa using h9

set_option maxRecDepth 100000 in
set_option maxHeartbeats 2000000 in
theorem gather_any (F : List (List Int)) (l : List Int) (M : Nat) (g : FuncId) (lb : Array Value) (eg : ∀ args w, (callFunc g args).run Tryz.prog w = .ok (.enter g args) w) (fv : Nat → Value) (w : World) (pb : Nat) (o o2 : Option Addr) (c c2 : Nat)
    (hpb : pb < w.heap.size) (hfo : w.cell? ⟨pb, 1, none⟩ = some (.slice o2 F.length c2))
    (hof : ∀ (s : Nat) W, s < F.length → Below w.heap.size w W → Calls Tryz.prog g (#[.int .i64 s] ++ lb) W fun e w' => e = .returned (fv s) ∧ w' = W)
    (hfv : ∀ s, s < F.length → Row w (fv s) (F.getD s []).length (ints1 (F.getD s [])))
    (hl : Row w (.slice o l.length c) l.length (ints1 l)) (hM : ∀ r ∈ F, r.length ≤ M) (hF : F.length ≤ 100000) (hM2 : M ≤ 100000) (hlM : l.length * M ≤ 4000000) (hll : l.length ≤ 100000) :
    Calls Tryz.prog 35 #[.pointer (some ⟨pb, 0, none⟩), .slice o l.length c, .func (.func g) #[] lb] w fun e w' =>
      ∃ u, e = .returned u ∧ w'.ownsRow w.heap.size 3 1 u (Nf.gat F l).length (ints1 (Nf.gat F l)) ∧ Below w.heap.size w w' := by
  obtain ⟨ib, hb0, hb1, hb2, hb3⟩ := infoBool1
  obtain ⟨ii, hi0, hi1, hi2, hi3⟩ := infoInt1
  have HL := Lib.hid hl
  have HF := Lib.hid hfv
  have HO := Lib.hid hof
  have HM := Lib.hid hM
  clear hl hfv hof hM
  obtain ⟨w1, hmk, hown, hgrow⟩ := run_makeSlice_full (P := Tryz.prog) w w.heap.size 47 4 ib (.bool false) 1 Tryz.underlying47 hb0 hb1 hb2 .i64 .i64 F.length (by omega) (by rw [hb3]; omega) (by simp [maxLen]; omega) (Nat.le_refl _)
  go_enter Tryz.func35, Tryz.ntmps35
  go_wp2_with fail
  rw [seenL_nil] at hown
  have hb1' : Below w.heap.size w w1 := (Below.refl _ w).grown hgrow (Nat.le_refl _) (fun j hj => by cases hj)
  have hlt1 : w.heap.size < w1.heap.size := by
    rcases hown.2 with ⟨h0, _⟩ | ⟨g, cap, cur, hv, hg, hb, _⟩
    · cases h0
    · cases hv; exact (Array.getElem?_eq_some_iff.1 hb).1
  have HG0 : GatAt F l w 0 (.slice none 0 0) w1 := ⟨hown, World.ownsRow_nil _ _ _ _, hb1', hlt1⟩
  clear hown hgrow hb1' hlt1
  go_loopg [8, 19] l.length (fun g s8 s19 wx => ∃ k, k + g = l.length ∧ s19 = .int .i64 (k : Int) ∧ GatAt F l w k s8 wx)
  case atStart => exact ⟨0, by omega, rfl, HG0⟩
  case round =>
    obtain ⟨k, hk, rfl, HG⟩ := hrel
    by_cases hlt : k < l.length
    · obtain ⟨s, hs⟩ : ∃ s, s = l.getD k 0 := ⟨_, rfl⟩
      have hsucc := Nf.gatK_succ F l k hlt
      rw [← hs] at hsucc
      obtain ⟨bl, offl, rfl, hbl, hcl⟩ : ∃ b off, o = some ⟨b, off, none⟩ ∧ b < w.heap.size ∧ w.cell? ⟨b, off + k, none⟩ = some (.int .i64 s) := by
        obtain ⟨o', c', e, h1, h2, h3⟩ := HL.out
        simp only [Value.slice.injEq, true_and] at e
        obtain ⟨rfl, rfl⟩ := e
        rcases h3 with ⟨h0, _⟩ | ⟨b, off, rfl, hb, hcs⟩
        · omega
        · exact ⟨b, off, rfl, hb, by rw [hcs k _ (getElem?_ints hlt), hs]⟩
      have hcs := (HG.bel.cell (p := ⟨bl, offl + k, none⟩) hbl).trans hcl
      clear hs hcl
      have hkl : (k : Int) < (l.length : Int) := by omega
      have HG' := Lib.hid HG
      obtain ⟨g1, hg1⟩ : ∃ g1, g1 + 1 = gk := ⟨gk - 1, by omega⟩
      have Hsucc := Lib.hid hsucc
      clear hsucc
      by_cases h1 : 0 ≤ s
      · by_cases h2 : s < (F.length : Int)
        · obtain ⟨m, rfl⟩ : ∃ m : Nat, s = (m : Int) := ⟨s.toNat, by omega⟩
          have hmF : m < F.length := by omega
          obtain ⟨hcm, hfm⟩ := HG.cell hmF
          by_cases h3 : (m : Int) ∈ (Nf.gatK F l k).2
          · rw [decide_eq_true h3] at hcm
            have hst : Nf.gatK F l (k + 1) = Nf.gatK F l k := by rw [Hsucc.out]; unfold Nf.gstep; rw [if_neg (fun h => h.2.2 h3)]
            have Hst := Lib.hid hst
            have H3 := Lib.hid h3
            clear HG hst h3
            go_wp2_with fail
            go_roundg g1
            case measure => omega
            case rel => exact ⟨k + 1, by omega, by simp, HG'.out.same Hst.out⟩
          · rw [decide_eq_false h3] at hcm
            have hst : Nf.gatK F l (k + 1) = ((Nf.gatK F l k).1 ++ F.getD m [], (m : Int) :: (Nf.gatK F l k).2) := by rw [Hsucc.out]; unfold Nf.gstep; rw [if_pos ⟨h1, h2, h3⟩]; simp
            have Hst := Lib.hid hst
            obtain ⟨wm, hwm⟩ : ∃ wm, wr.setCell ⟨w.heap.size, m, none⟩ (.bool true) = wm := ⟨_, rfl⟩
            have hGm := HG.mark hmF hwm
            have hcall : Calls Tryz.prog g (#[.int .i64 m] ++ lb) wm (fun e w' => e = .returned (fv m) ∧ wm = w') := (HO.out m wm hmF hGm.2.2).mono (fun e w' h => ⟨h.1, h.2.symm⟩)
            have hlen : (Nf.gatK F l k).1.length ≤ k * M := Nf.gatK_len F l M HM.out k (by omega)
            have hkM : k * M ≤ l.length * M := Nat.mul_le_mul_right _ (by omega)
            have hfM : (F.getD m []).length ≤ M := by
              rw [List.getD_eq_getElem?_getD, List.getElem?_eq_getElem hmF]
              exact HM.out _ (List.getElem_mem hmF)
            obtain ⟨B, hB⟩ : ∃ B, B = F.getD m [] := ⟨_, rfl⟩
            obtain ⟨A, hA⟩ : ∃ A, A = (Nf.gatK F l k).1 := ⟨_, rfl⟩
            have hrow := (HF.out m hmF).below hGm.2.2
            have hout := hGm.2.1
            rw [← hB] at hrow hfM
            rw [← hA] at hlen hout
            have hlen4 : A.length ≤ 4000000 := by omega
            have hB4 : B.length ≤ 100000 := by omega
            have HA := Lib.hid hA
            have HB := Lib.hid hB
            have HGm := Lib.hid hGm
            have hlt8 := HG.lt
            have hsz8 : wr.heap.size ≤ wm.heap.size := by rw [← hwm]; simp
            clear HG hst h3 hA hB hGm hkM hlen
            go_wp2_with (first
              | (refine hcall.mono ?_; rintro e w2 ⟨rfl, rfl⟩)
              | (at_builtin; refine wpList_append_row _ rfl _ _ 23 rfl (w.heap.size + 1) 3 ii (.int .i64 0) 1 8 Tryz.underlying23 hi0 hi1 hi2 hi3 rfl (by decide) _ A.length (ints1 A) rfl hout _ B.length (ints1 B) rfl hrow (by simp) (by simp [Value.oneCell']) (by simp [maxLen]; omega) (by omega) (by omega) ?_; intro v9 w9 hown9 hgrow9))
            go_roundg g1
            case measure => omega
            case rel => exact ⟨k + 1, by omega, by simp, GatAt.next (B := B) HGm.out (by rw [Hst.out, HB.out]) (by rw [← HA.out]; exact hout) (by rw [← HA.out]; exact hown9) hgrow9 (by omega)⟩
        · have hst : Nf.gatK F l (k + 1) = Nf.gatK F l k := by rw [Hsucc.out]; unfold Nf.gstep; rw [if_neg (fun h => h2 h.2.1)]
          have Hst := Lib.hid hst
          clear HG hst
          go_wp2_with fail
          go_roundg g1
          case measure => omega
          case rel => exact ⟨k + 1, by omega, by simp, HG'.out.same Hst.out⟩
      · have hst : Nf.gatK F l (k + 1) = Nf.gatK F l k := by rw [Hsucc.out]; unfold Nf.gstep; rw [if_neg (fun h => h1 h.1)]
        have Hst := Lib.hid hst
        clear HG hst
        go_wp2_with fail
        go_roundg g1
        case measure => omega
        case rel => exact ⟨k + 1, by omega, by simp, HG'.out.same Hst.out⟩
    · obtain rfl : k = l.length := by omega
      have HG' := Lib.hid HG
      have hgl : (Nf.gatK F l l.length).1.length ≤ 4000000 := Nat.le_trans (Nf.gatK_len F l M HM.out _ (Nat.le_refl _)) hlM
      have hend := ordered_any (Nf.gatK F l l.length).1 hgl u8 wr (Row.owned HG.out)
      have hltw := HG.lt
      clear HG
      go_wp2_with (go_at_call 31; refine hend.mono ?_; rintro e w2 ⟨u, rfl, hu, hbu⟩)
      go_ret
      exact ⟨u, rfl, Joins.ownsRow_le hu (by omega), HG'.out.bel.trans (hbu.mono (by omega))⟩
end Go.Proofs.YtmgfpcblbbpahaaGreat

namespace Go.Proofs.YtmgfpcblbbpahaaGreat
open Go.RowKit Ru Rn Rn.Ru

def RowsN (w : World) (v : Value) (vs : List Value) (F : List (List Int)) : Prop :=
  vs.length = F.length ∧ Row w v F.length vs ∧ ∀ i, i < F.length → Row w (vs.getD i undef) (F.getD i []).length (ints1 (F.getD i []))
theorem RowsN.moved {w w' : World} {v : Value} {vs : List Value} {F : List (List Int)} (h : RowsN w v vs F) (hb : Below w.heap.size w w') : RowsN w' v vs F := ⟨h.1, h.2.1.below hb, fun i hi => (h.2.2 i hi).below hb⟩
theorem rowsR_moved {w w' : World} {v : Value} {vs : List Value} {F : List (List Pc)} (h : RowsR w v vs F) (hb : Below w.heap.size w w') : RowsR w' v vs F := ⟨h.1, h.2.1.below hb, fun i hi => (h.2.2 i hi).below hb⟩
theorem row_at {w : World} {o : Option Addr} {n c : Nat} {cs : List Value} (h : Row w (.slice o n c) n cs) {i : Nat} {u : Value} (hu : cs[i]? = some u) (hi : i < n) : ∃ b off, o = some ⟨b, off, none⟩ ∧ b < w.heap.size ∧ w.cell? ⟨b, off + i, none⟩ = some u := by
  obtain ⟨o', c', e, h1, h2, h3⟩ := h
  simp only [Value.slice.injEq, true_and] at e
  obtain ⟨rfl, rfl⟩ := e
  rcases h3 with ⟨h0, _⟩ | ⟨b, off, rfl, hb, hcs⟩
  · omega
  · exact ⟨b, off, rfl, hb, hcs i u hu⟩
theorem getD_get {vs : List Value} {i : Nat} (h : i < vs.length) : vs[i]? = some (vs.getD i undef) := by rw [List.getElem?_eq_getElem h]; simp [List.getD, h]

structure NIs (w : World) (pb : Nat) (S : List (List Pc)) (F E : List (List Int)) (C : List Pc) (so fo eo co : Option Addr) (sc fc ec cc : Nat) (ss fs es : List Value) : Prop where
  lt : pb < w.heap.size
  c0 : w.cell? ⟨pb, 0, none⟩ = some (.slice so S.length sc)
  c1 : w.cell? ⟨pb, 1, none⟩ = some (.slice fo F.length fc)
  c2 : w.cell? ⟨pb, 2, none⟩ = some (.slice eo E.length ec)
  c3 : w.cell? ⟨pb, 3, none⟩ = some (.slice co C.length cc)
  sets : RowsR w (.slice so S.length sc) ss S
  fol : RowsN w (.slice fo F.length fc) fs F
  ends : RowsN w (.slice eo E.length ec) es E
  cells : Row w (.slice co C.length cc) C.length (flatK .i32 C)
  lenF : F.length = S.length
  lenE : E.length = S.length
  few : S.length ≤ 1000
  short : (∀ s ∈ S, s.length ≤ 1000) ∧ (∀ r ∈ F, r.length ≤ 1000) ∧ (∀ r ∈ E, r.length ≤ 1000)
  fit : ∀ r ∈ F, ∀ x ∈ r, 0 ≤ x ∧ x < (S.length : Int)
section
variable {w w' : World} {pb : Nat} {S : List (List Pc)} {F E : List (List Int)} {C : List Pc} {so fo eo co : Option Addr} {sc fc ec cc : Nat} {ss fs es : List Value}
theorem NIs.moved (h : NIs w pb S F E C so fo eo co sc fc ec cc ss fs es) (hb : Below w.heap.size w w') : NIs w' pb S F E C so fo eo co sc fc ec cc ss fs es :=
  ⟨Nat.lt_of_lt_of_le h.lt hb.size, (hb.cell (p := ⟨pb, 0, none⟩) h.lt).trans h.c0, (hb.cell (p := ⟨pb, 1, none⟩) h.lt).trans h.c1, (hb.cell (p := ⟨pb, 2, none⟩) h.lt).trans h.c2, (hb.cell (p := ⟨pb, 3, none⟩) h.lt).trans h.c3,
   rowsR_moved h.sets hb, h.fol.moved hb, h.ends.moved hb, h.cells.below hb, h.lenF, h.lenE, h.few, h.short, h.fit⟩

theorem next1_any (h : NIs w pb S F E C so fo eo co sc fc ec cc ss fs es) (bx s : Nat) (hbx : w.cell? ⟨bx, 0, none⟩ = some (.pointer (some ⟨pb, 0, none⟩))) (hs : s < F.length) :
    Calls Tryz.prog 36 #[.int .i64 s, .pointer (some ⟨bx, 0, none⟩)] w fun e w' => e = .returned (fs.getD s undef) ∧ w' = w := by
  obtain ⟨b, off, rfl, hb, hc⟩ := row_at h.fol.2.1 (getD_get (by rw [h.fol.1]; exact hs)) hs
  have hc1 := h.c1
  generalize fs.getD s undef = u at hc ⊢
  clear h
  go_enter Tryz.func36, Tryz.ntmps36
  go_wp2_with fail
  go_ret
  exact ⟨rfl, rfl⟩

theorem rules1_any (h : NIs w pb S F E C so fo eo co sc fc ec cc ss fs es) (bx s : Nat) (hbx : w.cell? ⟨bx, 0, none⟩ = some (.pointer (some ⟨pb, 0, none⟩))) (hs : s < E.length) :
    Calls Tryz.prog 40 #[.int .i64 s, .pointer (some ⟨bx, 0, none⟩)] w fun e w' => e = .returned (es.getD s undef) ∧ w' = w := by
  obtain ⟨b, off, rfl, hb, hc⟩ := row_at h.ends.2.1 (getD_get (by rw [h.ends.1]; exact hs)) hs
  have hc1 := h.c2
  generalize es.getD s undef = u at hc ⊢
  clear h
  go_enter Tryz.func40, Tryz.ntmps40
  go_wp2_with fail
  go_ret
  exact ⟨rfl, rfl⟩

theorem next2_any (h : NIs w pb S F E C so fo eo co sc fc ec cc ss fs es) (bx br : Nat) (r : Int) (s : Nat) (hbl : bx < w.heap.size ∧ br < w.heap.size) (hbx : w.cell? ⟨bx, 0, none⟩ = some (.pointer (some ⟨pb, 0, none⟩))) (hbr : w.cell? ⟨br, 0, none⟩ = some (.int .i32 r)) (hs : s < S.length) :
    Calls Tryz.prog 38 #[.int .i64 s, .pointer (some ⟨bx, 0, none⟩), .pointer (some ⟨br, 0, none⟩)] w fun e w' => e = .returned (.bool (!has (S.getD s []) r)) ∧ Below w.heap.size w w' := by
  obtain ⟨b, off, rfl, hb, hc⟩ := row_at h.sets.2.1 (getD_get (by rw [h.sets.1]; exact hs)) hs
  have hc1 := h.c0
  have hrow := h.sets.2.2 s hs
  have hlen : (S.getD s []).length ≤ 1000 := by
    rw [List.getD_eq_getElem?_getD, List.getElem?_eq_getElem hs]; exact h.short.1 _ (List.getElem_mem hs)
  have hpl := h.lt
  generalize S.getD s [] = X at hrow hlen ⊢
  generalize ss.getD s undef = u at hc hrow ⊢
  have hcall := fun (W : World) (hW : Below w.heap.size w W) => has_any X r u W (hrow.below hW) (by omega)
  have HC := Lib.hid hcall
  have HS : Hid (∀ W : World, Below w.heap.size w W → W.cell? ⟨bx, 0, none⟩ = some (.pointer (some ⟨pb, 0, none⟩)) ∧ W.cell? ⟨pb, 0, none⟩ = some (.slice (some ⟨b, off, none⟩) S.length sc) ∧ W.cell? ⟨b, off + s, none⟩ = some u ∧ W.cell? ⟨br, 0, none⟩ = some (.int .i32 r)) :=
    Lib.hid fun W hW => ⟨(hW.cell (p := ⟨bx, 0, none⟩) hbl.1).trans hbx, (hW.cell (p := ⟨pb, 0, none⟩) hpl).trans hc1, (hW.cell (p := ⟨b, off + s, none⟩) hb).trans hc, (hW.cell (p := ⟨br, 0, none⟩) hbl.2).trans hbr⟩
  clear h hrow hcall
  go_enter Tryz.func38, Tryz.ntmps38
  go_wp2_with fail
  go_region_held3 (fun w' => w'.cell? ⟨bx, 0, none⟩ = some (.pointer (some ⟨pb, 0, none⟩)) ∧ w'.cell? ⟨pb, 0, none⟩ = some (.slice (some ⟨b, off, none⟩) S.length sc) ∧ w'.cell? ⟨b, off + s, none⟩ = some u ∧ w'.cell? ⟨br, 0, none⟩ = some (.int .i32 r))
    (exact HS.out _ (by repeat (first | exact Below.refl _ _ | assumption | (refine Below.drew ?_) | (refine bel_then ?_ (by assumption)))))
    (first
     | (go_at_call 39; refine (HC.out _ (by repeat (first | exact Below.refl _ _ | assumption | (refine Below.drew ?_)))).mono ?_; rintro e w2 ⟨rfl, hb2⟩))
  all_goals (go_wp2_with (fail))
  all_goals go_ret
  all_goals exact ⟨rfl, bel_then (below_drewN (Below.refl _ _) _) (by assumption)⟩
end
def nextL (S : List (List Pc)) (F : List (List Int)) (l : List Int) (r : Int) : List Int := (Nf.gat F l).filter fun x => !(!has (S.getD x.toNat []) r)
section
variable {w w' : World} {pb : Nat} {S : List (List Pc)} {F E : List (List Int)} {C : List Pc} {so fo eo co : Option Addr} {sc fc ec cc : Nat} {ss fs es : List Value}

theorem gat_fit (F : List (List Int)) (l : List Int) (n : Nat) (h : ∀ r ∈ F, ∀ x ∈ r, 0 ≤ x ∧ x < (n : Int)) : ∀ x ∈ Nf.gat F l, 0 ≤ x ∧ x < (n : Int) := by
  intro x hx
  obtain ⟨s, _, h0, h1, h2⟩ := (Nf.mem_gat F l x).1 hx
  rw [List.getD_eq_getElem?_getD] at h2
  cases e : F[s.toNat]? with
  | none => rw [e] at h2; simp at h2
  | some r => rw [e] at h2; exact h r (List.mem_of_getElem? e) x h2
theorem asc_len {l : List Int} (hs : l.Pairwise (· < ·)) (n : Nat) (h : ∀ x ∈ l, 0 ≤ x ∧ x < (n : Int)) : l.length ≤ n := by
  have hk : ∀ (l : List Int) (a : Int), l.Pairwise (· < ·) → (∀ x ∈ l, a ≤ x ∧ x < (n : Int)) → a ≤ (n : Int) → (l.length : Int) ≤ (n : Int) - a := by
    intro l
    induction l with
    | nil => intro a _ _ ha; simp; omega
    | cons y l ih =>
      intro a hp hx ha
      rw [List.pairwise_cons] at hp
      have hy := hx y (by simp)
      have := ih (y + 1) hp.2 (fun x hxl => ⟨by have := hp.1 x hxl; omega, (hx x (by simp [hxl])).2⟩) (by omega)
      simp only [List.length_cons, Int.natCast_add, Int.cast_ofNat_Int]
      omega
  have := hk l 0 hs h (by omega)
  omega

set_option maxRecDepth 100000 in
set_option maxHeartbeats 2000000 in
theorem next_any (h : NIs w pb S F E C so fo eo co sc fc ec cc ss fs es) (l : List Int) (o : Option Addr) (c : Nat) (hl : Row w (.slice o l.length c) l.length (ints1 l)) (hll : l.length ≤ 4000) (r : Int) :
    Calls Tryz.prog 11 #[.pointer (some ⟨pb, 0, none⟩), .slice o l.length c, .int .i32 r] w fun e w' =>
      ∃ u, e = .returned u ∧ w'.ownsRow w.heap.size 3 1 u (nextL S F l r).length (ints1 (nextL S F l r)) ∧ Below w.heap.size w w' := by
  obtain ⟨W1, hW1⟩ : ∃ W1, (w.alloc (.cells #[.pointer (some ⟨pb, 0, none⟩)] 24)).alloc (.cells #[.int .i32 r] 21) = W1 := ⟨_, rfl⟩
  have hb1 : Below w.heap.size w W1 := by rw [← hW1]; exact bel_new (bel_new (Below.refl _ _) _) _
  have hs1 : W1.heap.size = w.heap.size + 2 := by rw [← hW1]; simp
  have hbx : W1.cell? ⟨w.heap.size, 0, none⟩ = some (.pointer (some ⟨pb, 0, none⟩)) := by rw [← hW1]; exact ((Boxed.new w _ _).alloc _).cell
  have hbr : W1.cell? ⟨w.heap.size + 1, 0, none⟩ = some (.int .i32 r) := by
    rw [← hW1]
    have := (Boxed.new (w.alloc (.cells #[.pointer (some ⟨pb, 0, none⟩)] 24)) 21 (.int .i32 r)).cell
    rwa [World.size_alloc] at this
  have hA : w.heap.size < W1.heap.size := by omega
  have hB : w.heap.size + 1 < W1.heap.size := by omega
  have h1 := h.moved hb1
  have hga := gather_any F l 1000 36 #[.pointer (some ⟨w.heap.size, 0, none⟩)] (enters_of Tryz.func36 (by kernel_rfl) rfl) (fun s => fs.getD s undef) W1 pb o fo c fc h1.lt h1.c1
    (fun s W hs hW => next1_any (h1.moved hW) w.heap.size s ((hW.cell (p := ⟨w.heap.size, 0, none⟩) hA).trans hbx) hs) h1.fol.2.2 (hl.below hb1) h.short.2.1 (by rw [h.lenF]; have := h.few; omega) (by omega) (by omega) (by omega)
  have hfit := gat_fit F l S.length h.fit
  have hglen : (Nf.gat F l).length ≤ S.length := asc_len (Nf.ord_lt _) S.length hfit
  have hdel : DelSays W1 38 #[.pointer (some ⟨w.heap.size, 0, none⟩), .pointer (some ⟨w.heap.size + 1, 0, none⟩)] (Nf.gat F l) (fun x => !has (S.getD x.toNat []) r) := by
    intro x W hx hW
    obtain ⟨m, rfl⟩ : ∃ m : Nat, x = (m : Int) := ⟨x.toNat, by have := (hfit x hx).1; omega⟩
    have := next2_any (h1.moved hW) w.heap.size (w.heap.size + 1) r m ⟨by have := hW.size; omega, by have := hW.size; omega⟩ ((hW.cell (p := ⟨w.heap.size, 0, none⟩) hA).trans hbx) ((hW.cell (p := ⟨w.heap.size + 1, 0, none⟩) hB).trans hbr) (by have := (hfit _ hx).2; omega)
    simpa using this
  have hfew := h.few
  have HGA := Lib.hid hga
  have HD := Lib.hid hdel
  have hmf : ∀ (fn : Fn) (first cap : Array Value) (w : World), (Instr.makeFunc fn first cap).run Tryz.prog w = .ok (.func fn first cap) w := fun _ _ _ _ => rfl
  clear h h1 hl hga hdel hfit hbr
  go_enter Tryz.func11, Tryz.ntmps11
  go_wp2_with (first
    | (go_at_call 35; refine HGA.out.mono ?_; rintro e w2 ⟨u, rfl, hu, hbu⟩)
    | (go_at_call 37; refine (deleteF_any W1 _ _ (enters_of Tryz.func38 (by kernel_rfl) rfl) (Nf.gat F l) _ HD.out u w2 hbu hu (by omega)).mono ?_; rintro e w3 ⟨u3, rfl, hu3, hb3⟩))
  go_ret
  exact ⟨u3, rfl, Joins.ownsRow_le hu3 (by omega), hb1.trans (hb3.mono (by omega))⟩

set_option maxRecDepth 100000 in
set_option maxHeartbeats 2000000 in
theorem rules_any (h : NIs w pb S F E C so fo eo co sc fc ec cc ss fs es) (l : List Int) (o : Option Addr) (c : Nat) (hl : Row w (.slice o l.length c) l.length (ints1 l)) (hll : l.length ≤ 4000) :
    Calls Tryz.prog 15 #[.pointer (some ⟨pb, 0, none⟩), .slice o l.length c] w fun e w' =>
      ∃ u, e = .returned u ∧ w'.ownsRow w.heap.size 3 1 u (Nf.gat E l).length (ints1 (Nf.gat E l)) ∧ Below w.heap.size w w' := by
  obtain ⟨W1, hW1⟩ : ∃ W1, w.alloc (.cells #[.pointer (some ⟨pb, 0, none⟩)] 24) = W1 := ⟨_, rfl⟩
  have hb1 : Below w.heap.size w W1 := by rw [← hW1]; exact bel_new (Below.refl _ _) _
  have hs1 : W1.heap.size = w.heap.size + 1 := by rw [← hW1]; simp
  have hbx : W1.cell? ⟨w.heap.size, 0, none⟩ = some (.pointer (some ⟨pb, 0, none⟩)) := by rw [← hW1]; exact (Boxed.new w _ _).cell
  have hA : w.heap.size < W1.heap.size := by omega
  have h1 := h.moved hb1
  have hga := gather_any E l 1000 40 #[.pointer (some ⟨w.heap.size, 0, none⟩)] (enters_of Tryz.func40 (by kernel_rfl) rfl) (fun s => es.getD s undef) W1 pb o fo c fc h1.lt (by rw [h.lenE, ← h.lenF]; exact h1.c1)
    (fun s W hs hW => rules1_any (h1.moved hW) w.heap.size s ((hW.cell (p := ⟨w.heap.size, 0, none⟩) hA).trans hbx) hs) h1.ends.2.2 (hl.below hb1) h.short.2.2 (by rw [h.lenE]; have := h.few; omega) (by omega) (by omega) (by omega)
  have HGA := Lib.hid hga
  have hmf : ∀ (fn : Fn) (first cap : Array Value) (w : World), (Instr.makeFunc fn first cap).run Tryz.prog w = .ok (.func fn first cap) w := fun _ _ _ _ => rfl
  clear h h1 hl hga
  go_enter Tryz.func15, Tryz.ntmps15
  go_wp2_with (first
    | (go_at_call 35; refine HGA.out.mono ?_; rintro e w2 ⟨u, rfl, hu, hbu⟩))
  go_ret
  exact ⟨u, rfl, Joins.ownsRow_le hu (by omega), hb1.trans (hbu.mono (by omega))⟩

theorem len_any (h : NIs w pb S F E C so fo eo co sc fc ec cc ss fs es) :
    Calls Tryz.prog 12 #[.pointer (some ⟨pb, 0, none⟩)] w fun e w' => e = .returned (.int .i64 S.length) ∧ w' = w := by
  have hc := h.c1
  have hl := h.lenF
  clear h
  go_enter Tryz.func12, Tryz.ntmps12
  go_wp2_with fail
  go_ret
  exact ⟨by rw [← hl]; rfl, rfl⟩
end
theorem len_nil (w : World) : Calls Tryz.prog 12 #[.pointer none] w fun e w' => e = .returned (.int .i64 0) ∧ w' = w := by
  go_enter Tryz.func12, Tryz.ntmps12
  go_wp2_with fail
  go_ret
  exact ⟨rfl, rfl⟩
theorem next_nil (v : Value) (r : Int) (w : World) : Calls Tryz.prog 11 #[.pointer none, v, .int .i32 r] w fun e w' => e = .returned (.slice none 0 0) ∧ Below w.heap.size w w' := by
  go_enter Tryz.func11, Tryz.ntmps11
  go_wp2_with fail
  go_ret
  exact ⟨rfl, bel_new (bel_new (Below.refl _ _) _) _⟩
end Go.Proofs.YtmgfpcblbbpahaaGreat
