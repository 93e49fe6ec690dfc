/- slices.IndexFunc, slices.DeleteFunc on an own row of ints: what the function value says of an int may lay blocks, but turns nothing below the row. -/
import Derived.Test.YtmgfpcblbbpahaaGreatNfVal
import Derived.Test.YtmgfpcblbbpahaaGreatNfMath
import Derived.Test.YtmgfpcblbbpahaaGreatNfSh
import Derived.Sort.OwnSortedInts
import Derived.Deep.QuietTactic
import Derived.WalkLawsBesides
import Derived.Lib.Hide
import Derived.Lib.SmallJoins
import Derived.Lib.RowBridge
import Derived.Test.YtmgfpcblbbpahaaGreatAppF
import Derived.Lib.SliceRun
import Derived.Deep.LoopGhost
import Derived.Deep.RegionHeld3
import Derived.Deep.RegionLaw
set_option linter.unusedVariables false
set_option linter.unusedSimpArgs false
namespace Go.Proofs.YtmgfpcblbbpahaaGreat
open Go.RowKit

theorem owns_cut {w : World} {base g n m cap : Nat} {e : TypeId} {xs : List Value} (h : w.ownsRow base e 1 (.slice (some ⟨g, 0, none⟩) n cap) n xs) (hm : m ≤ n) :
    w.ownsRow base e 1 (.slice (some ⟨g, 0, none⟩) m cap) m (xs.take m) := by
  obtain ⟨h1, ⟨h2, _⟩ | ⟨g', cap', cur, hv, hg, hb, hn, hc, hs, ht⟩⟩ := h
  · cases h2
  · simp only [Value.slice.injEq, Option.some.injEq, Addr.mk.injEq, true_and, and_true] at hv
    obtain ⟨rfl, rfl⟩ := hv
    refine ⟨by simp [h1]; omega, .inr ⟨g, cap, cur, rfl, hg, hb, by omega, hc, hs, ?_⟩⟩
    rw [← ht, List.take_take]; congr 1; omega

theorem collect_any (zs : List Int) (hz : zs.length ≤ 4000000) (Bs : Nat) (sv : Value) (w0 w : World) (hBs : Bs < w.heap.size) (h0 : Below w0.heap.size w0 w) (hc : w.cell? ⟨Bs, 0, none⟩ = some sv) (hr : Row w0 sv zs.length (ints1 zs)) :
    Calls Tryz.prog 82 #[.func (.func 84) #[] #[.pointer (some ⟨Bs, 0, none⟩)]] w fun e w' =>
      ∃ v, e = .returned v ∧ w'.ownsRow w.heap.size 3 1 v zs.length (ints1 zs) ∧ Below w.heap.size w w' := by
  have hcon := callsIn_wide.1 (apSeq_in 3 Bs (by omega) zs hz w0.heap.size w h0.size (vals_stops 2 (by omega) Bs sv zs hz w0 w hBs h0 hc hr))
  go_enter Tryz.func82, Tryz.ntmps82
  go_wp2_with (go_at_call 102; refine hcon.mono ?_; rintro e w1 ⟨v, rfl, hv⟩)
  go_ret
  exact ⟨v, rfl, hv⟩

theorem sorted_any (zs : List Int) (hz : zs.length ≤ 4000000) (Bs : Nat) (sv : Value) (w0 w : World) (hBs : Bs < w.heap.size) (h0 : Below w0.heap.size w0 w) (hc : w.cell? ⟨Bs, 0, none⟩ = some sv) (hr : Row w0 sv zs.length (ints1 zs)) :
    Calls Tryz.prog 59 #[.func (.func 84) #[] #[.pointer (some ⟨Bs, 0, none⟩)]] w fun e w' =>
      ∃ v, e = .returned v ∧ w'.ownsRow w.heap.size 3 1 v zs.length (ints1 (zs.mergeSort fun x y => decide (x ≤ y))) ∧ Below w.heap.size w w' := by
  have hcon := collect_any zs hz Bs sv w0 w hBs h0 hc hr
  go_enter Tryz.func59, Tryz.ntmps59
  go_wp2_with (go_at_call 82; refine hcon.mono ?_; rintro e w1 ⟨v, rfl, hv, hb⟩)
  have hv0 := hv
  rcases hv.2 with ⟨rfl, hz0⟩ | ⟨gb, cap, cur, rfl, hbase, hgb, r1, r2, r3, r4⟩
  · obtain rfl : zs = [] := List.eq_nil_of_length_eq_zero hz0
    have hsort : Calls Tryz.prog 83 #[.slice none 0 0] w1 fun e w' => e = .returned (.tuple #[]) ∧ w' = w1 := AnyM.slices_Sort_int_none Tryz.sortI none 0 w1
    go_wp2_with (go_at_call 83; refine hsort.mono ?_; rintro e w2 ⟨rfl, rfl⟩)
    go_ret
    exact ⟨_, rfl, by simpa using hv0, hb⟩
  · have hH := holds_of_blockI hgb (by simpa using r4)
    have hgl : gb < w1.heap.size := (Array.getElem?_eq_some_iff.1 hgb).1
    have hsort : Calls Tryz.prog 83 #[.slice (some ⟨gb, 0, none⟩) zs.length cap] w1 _ := AnyM.slices_Sort_int Tryz.sortI gb 0 cap zs w1 hH hgl (by omega)
    go_wp2_with (go_at_call 83; refine hsort.mono ?_; rintro e w2 ⟨rfl, nn, os, rfl⟩)
    go_ret
    exact ⟨_, rfl, ownsRow_sortedI (by simp) hbase hgb r1 r2 r3, hb.grown (grownBy_sortedI _) hb.size (fun j hj => by cases hj; exact hbase)⟩

theorem ordL_nil : ordL [] = [] := by simp [ordL, Lib.compact, Lib.compactUpTo]
theorem grow_none (w : World) : Sort.grow w #[] = w := by simp [Sort.grow]

theorem ordered_any (zs : List Int) (hz : zs.length ≤ 4000000) (v : Value) (w : World) (hr : Row w v zs.length (ints1 zs)) :
    Calls Tryz.prog 31 #[v] w fun e w' => ∃ u, e = .returned u ∧ w'.ownsRow w.heap.size 3 1 u (ordL zs).length (ints1 (ordL zs)) ∧ Below w.heap.size w w' := by
  obtain ⟨o, c, rfl⟩ := (show ∃ o c, v = .slice o zs.length c by obtain ⟨o, c, e, _⟩ := hr; exact ⟨o, c, e⟩)
  have hval : ∀ W, Calls Tryz.prog 60 #[.slice o zs.length c] W fun e w' => e = .returned (.func (.func 84) #[] #[.pointer (some ⟨W.heap.size, 0, none⟩)]) ∧ w' = W.alloc (.cells #[.slice o zs.length c] 23) := by
    intro W
    go_enter Tryz.func60, Tryz.ntmps60
    go_wp2_with fail
    go_ret
    exact ⟨rfl, rfl⟩
  have hcon := sorted_any zs hz w.heap.size (.slice o zs.length c) w (w.alloc (.cells #[.slice o zs.length c] 23)) (by simp) ((Below.refl _ w).alloc (Nat.le_refl _) _) (by rw [World.cell?_alloc_mark]; rfl) hr
  go_enter Tryz.func31, Tryz.ntmps31
  go_wp2_with (first
    | (go_at_call 60; refine (hval _).mono ?_; rintro e w1 ⟨rfl, rfl⟩)
    | (go_at_call 59; refine hcon.mono ?_; rintro e w1 ⟨v, rfl, hv, hb⟩))
  have hb' : Below w.heap.size w w1 := ((Below.refl _ w).alloc (Nat.le_refl _) _).trans (hb.mono (by simp))
  rcases hv.2 with ⟨rfl, hz0⟩ | ⟨gb, cap, cur, rfl, hbase, hgb, r1, r2, r3, r4⟩
  · obtain rfl : zs = [] := List.eq_nil_of_length_eq_zero hz0
    have hcomp : Calls Tryz.prog 58 #[.slice none 0 0] w1 fun e w' => e = .returned (.slice none 0 0) ∧ w' = w1 := AnyG.slices_Compact_int_empty Tryz.compI none 0 w1
    go_wp2_with (go_at_call 58; refine hcomp.mono ?_; rintro e w2 ⟨rfl, rfl⟩)
    go_ret
    exact ⟨_, rfl, by rw [ordL_nil]; exact World.ownsRow_nil _ _ _ _, hb'⟩
  · obtain ⟨ss, hss⟩ : ∃ ss, ss = zs.mergeSort fun x y => decide (x ≤ y) := ⟨_, rfl⟩
    have hsl : ss.length = zs.length := by rw [hss]; simp
    rw [← hss, ← hsl] at r4
    have hH := holds_of_blockI hgb (by simpa using r4)
    have hgl : gb < w1.heap.size := (Array.getElem?_eq_some_iff.1 hgb).1
    have hcomp : Calls Tryz.prog 58 #[.slice (some ⟨gb, 0, none⟩) ss.length cap] w1 _ := AnyG.slices_Compact_int Tryz.compI gb 0 cap ss w1 hH (by omega) (by omega)
    rw [hsl] at hcomp
    have HS := Lib.hid hss
    clear hss
    go_wp2_with (go_at_call 58; refine hcomp.mono ?_; rintro e w2 ⟨rfl, q, rfl⟩)
    go_ret
    have hle : (Lib.compact ss).length ≤ ss.length := Lib.compact_length_le ss
    have ho : ordL zs = Lib.compact ss := by rw [ordL, HS.out]
    have hw := ownsRow_sortedI (w := w1) (n := q) (os := #[]) (ss := ss) (ts := Lib.compact ss ++ List.replicate (ss.length - (Lib.compact ss).length) 0) (by simp; omega) hbase hgb (by omega) r2 r3
    have hcut := owns_cut hw hle
    rw [grow_none] at hcut
    rw [ho]
    refine ⟨_, rfl, ?_, ?_⟩
    · rw [← hsl]
      have e1 : (ints1 (Lib.compact ss ++ List.replicate (ss.length - (Lib.compact ss).length) 0)).take (Lib.compact ss).length = ints1 (Lib.compact ss) := by simp
      rw [e1] at hcut
      exact Joins.ownsRow_le hcut (by simp)
    · rw [← grow_none (Sort.putRow _ _ _ _ _)]
      exact hb'.grown (grownBy_sortedI _) hb'.size (fun j hj => by cases hj; simp at hbase; omega)
end Go.Proofs.YtmgfpcblbbpahaaGreat

namespace Go.Proofs.YtmgfpcblbbpahaaGreat
open Go.RowKit

def DelSays (w0 : World) (g : FuncId) (lb : Array Value) (zs : List Int) (p : Int → Bool) : Prop :=
  ∀ (x : Int) (W : World), x ∈ zs → Below w0.heap.size w0 W → Calls Tryz.prog g (#[.int .i64 x] ++ lb) W fun e w' => e = .returned (.bool (p x)) ∧ Below W.heap.size W w'

theorem idxFi_any (w0 : World) (g : FuncId) (lb : Array Value) (eg : ∀ args w, (callFunc g args).run Tryz.prog w = .ok (.enter g args) w) (zs : List Int) (p : Int → Bool) (hd : DelSays w0 g lb zs p)
    (v : Value) (w : World) (hb : Below w0.heap.size w0 w) (hr : Row w v zs.length (ints1 zs)) (hz : zs.length ≤ 4000000) :
    Calls Tryz.prog 65 #[v, .func (.func g) #[] lb] w fun e w' => (∃ i : Int, e = .returned (.int .i64 i) ∧ ((i = -1 ∧ ∀ x ∈ zs, p x = false) ∨ ∃ k : Nat, i = (k : Int) ∧ k < zs.length ∧ (∀ x ∈ zs.take k, p x = false) ∧ p (zs.getD k 0) = true)) ∧ Below w.heap.size w w' := by
  obtain ⟨o, c, rfl⟩ := (show ∃ o c, v = .slice o zs.length c by obtain ⟨o, c, e, _⟩ := hr; exact ⟨o, c, e⟩)
  have HR := Lib.hid hr
  have HD := Lib.hid hd
  clear hr hd
  go_enter Tryz.func65, Tryz.ntmps65
  go_wp2_with fail
  go_loopg [8] zs.length (fun gg s8 wx => ∃ k, k + gg = zs.length ∧ s8 = .int .i64 (k : Int) ∧ (∀ x ∈ zs.take k, p x = false) ∧ Below w.heap.size w wx)
  case atStart => exact ⟨0, by omega, rfl, by simp, Below.refl _ _⟩
  case round =>
    obtain ⟨k, hk, rfl, hno, hbel⟩ := hrel
    by_cases hlt : k < zs.length
    · obtain ⟨x, hx⟩ : ∃ x, x = zs.getD k 0 := ⟨_, rfl⟩
      obtain ⟨b, off, rfl, hbl, hcx⟩ : ∃ b off, o = some ⟨b, off, none⟩ ∧ b < w.heap.size ∧ w.cell? ⟨b, off + k, none⟩ = some (.int .i64 x) := by
        obtain ⟨o', c', e, h1, h2, h3⟩ := HR.out
        simp only [Value.slice.injEq, true_and] at e
        obtain ⟨rfl, rfl⟩ := e
        rcases h3 with ⟨h0, _⟩ | ⟨b, off, rfl, hb, hcs⟩
        · omega
        · exact ⟨b, off, rfl, hb, by rw [hcs k _ (getElem?_ints hlt), hx]⟩
      have hcell := (hbel.cell (p := ⟨b, off + k, none⟩) hbl).trans hcx
      have hmem : x ∈ zs := by rw [hx, List.getD_eq_getElem?_getD, List.getElem?_eq_getElem hlt]; exact List.getElem_mem hlt
      have hcall := HD.out x wr hmem (hb.trans (hbel.mono hb.size))
      have htk := take_next zs k hlt
      rw [← hx] at htk
      have HTK := Lib.hid htk
      have HX := Lib.hid hx
      have HNO := Lib.hid hno
      clear hcx hx htk hno
      obtain ⟨g1, hg1⟩ : ∃ g1, g1 + 1 = gk := ⟨gk - 1, by omega⟩
      obtain ⟨q, hq⟩ : ∃ q, p x = q := ⟨_, rfl⟩
      rw [hq] at hcall
      have HQ := Lib.hid hq
      clear hq
      cases q
      · go_wp2_with (refine hcall.mono ?_; rintro e w2 ⟨rfl, hb2⟩)
        go_roundg g1
        case measure => omega
        case rel =>
          refine ⟨k + 1, by omega, by simp, fun y hy => ?_, hbel.trans (hb2.mono hbel.size)⟩
          rw [HTK.out, List.mem_append, List.mem_singleton] at hy
          rcases hy with hy | rfl
          · exact HNO.out y hy
          · exact HQ.out
      · go_wp2_with (refine hcall.mono ?_; rintro e w2 ⟨rfl, hb2⟩)
        go_ret
        exact ⟨⟨(k : Int), rfl, .inr ⟨k, rfl, hlt, HNO.out, by rw [← HX.out]; exact HQ.out⟩⟩, hbel.trans (hb2.mono hbel.size)⟩
    · obtain rfl : k = zs.length := by omega
      have hall : ∀ x ∈ zs, p x = false := by simpa using hno
      have HA := Lib.hid hall
      clear hno hall
      go_wp2_with fail
      go_ret
      exact ⟨⟨-1, rfl, .inl ⟨rfl, HA.out⟩⟩, hbel⟩

theorem owns_setCells {base g n c : Nat} {e : TypeId} : ∀ (vs : List Value) (o : Nat) (w : World) (X : List Value), w.ownsRow base e 1 (.slice (some ⟨g, 0, none⟩) n c) n X → o + vs.length ≤ n →
    ∃ X', (w.setCells g o vs).ownsRow base e 1 (.slice (some ⟨g, 0, none⟩) n c) n X' ∧ X'.take o = X.take o := by
  intro vs
  induction vs with
  | nil => intro o w X h _; exact ⟨X, h, rfl⟩
  | cons v vs ih =>
    intro o w X h hl
    obtain ⟨X', h1, h2⟩ := ih (o + 1) _ _ (afowns_turn v h) (by simp at hl; omega)
    refine ⟨X', h1, ?_⟩
    have : (X'.take (o + 1)).take o = ((X.set o v).take (o + 1)).take o := by rw [h2]
    rw [List.take_take, List.take_take] at this
    rw [Nat.min_eq_left (Nat.le_succ o), List.take_set_of_le (Nat.le_refl _)] at this
    exact this
theorem bel_setCells {B b : Nat} {a : World} (hb : B ≤ b) : ∀ (vs : List Value) (o : Nat) (w : World), Below B a w → Below B a (w.setCells b o vs) := by
  intro vs
  induction vs with
  | nil => intro o w h; exact h
  | cons v vs ih => intro o w h; exact ih _ _ (h.setCell (p := ⟨b, o, none⟩) hb _)

structure DelAt (w0 : World) (zs : List Int) (p : Int → Bool) (gb cap k m : Nat) (wx : World) : Prop where
  row : ∃ Y : List Int, wx.ownsRow w0.heap.size 3 1 (.slice (some ⟨gb, 0, none⟩) zs.length cap) zs.length (ints1 Y) ∧ Y.length = zs.length ∧ Y.take m = (zs.take k).filter (fun x => !p x) ∧ Y.drop k = zs.drop k
  len : ((zs.take k).filter (fun x => !p x)).length = m
  lt : m < k
  le : k ≤ zs.length
  bel : Below w0.heap.size w0 wx
theorem owns_at {w : World} {base g n c : Nat} {e : TypeId} {xs : List Value} (h : w.ownsRow base e 1 (.slice (some ⟨g, 0, none⟩) n c) n xs) {j : Nat} {u : Value} (hj : xs[j]? = some u) (hn : j < n) :
    w.cell? ⟨g, j, none⟩ = some u ∧ w.frozen? ⟨g, j, none⟩ = false ∧ g < w.heap.size ∧ base ≤ g ∧ n ≤ c := by
  rcases h.2 with ⟨h0, _⟩ | ⟨g', cap, cur, hv, hg, hb, hc1, hc, hs, ht⟩
  · cases h0
  · cases hv
    refine ⟨?_, by simp [World.frozen?, hb], (Array.getElem?_eq_some_iff.1 hb).1, hg, hc1⟩
    have : (cur.toList.take (n * 1))[j]? = some u := by rw [ht]; exact hj
    rw [List.getElem?_take_of_lt (by omega), Array.getElem?_toList] at this
    simp [World.cell?, hb, this]
theorem drop_get {Y zs : List Int} {k : Nat} (h : Y.drop k = zs.drop k) (hk : k < zs.length) : Y[k]? = some (zs.getD k 0) := by
  have e : (Y.drop k)[0]? = (zs.drop k)[0]? := by rw [h]
  rw [List.getElem?_drop, List.getElem?_drop, Nat.add_zero] at e
  rw [e, List.getElem?_eq_getElem hk]; simp [List.getD, hk]
theorem ints1_get {Y : List Int} {k : Nat} {x : Int} (h : Y[k]? = some x) : (ints1 Y)[k]? = some (.int .i64 x) := by rw [List.getElem?_map, h]; rfl
theorem DelAt.skip {w0 wx wy : World} {zs : List Int} {p : Int → Bool} {gb cap k m : Nat} (h : DelAt w0 zs p gb cap k m wx) (hk : k < zs.length) (hp : p (zs.getD k 0) = true) (hb : Below wx.heap.size wx wy) : DelAt w0 zs p gb cap (k + 1) m wy := by
  obtain ⟨Y, h1, h2, h3, h4⟩ := h.row
  have ht := take_next zs k hk
  have hf : (zs.take (k + 1)).filter (fun x => !p x) = (zs.take k).filter (fun x => !p x) := by
    revert ht hp; generalize zs.getD k 0 = x; intro hp ht; rw [ht, List.filter_append]; simp [hp]
  refine ⟨⟨Y, owns_below h1 hb, h2, by rw [hf]; exact h3, ?_⟩, by rw [hf]; exact h.len, by have := h.lt; omega, hk, h.bel.trans (hb.mono h.bel.size)⟩
  have : (Y.drop k).drop 1 = (zs.drop k).drop 1 := by rw [h4]
  rwa [List.drop_drop, List.drop_drop] at this
theorem DelAt.take {w0 wx wy : World} {zs : List Int} {p : Int → Bool} {gb cap k m : Nat} (h : DelAt w0 zs p gb cap k m wx) (hk : k < zs.length) (hp : p (zs.getD k 0) = false) (hb : Below wx.heap.size wx wy) : DelAt w0 zs p gb cap (k + 1) (m + 1) (wy.setCell ⟨gb, m, none⟩ (.int .i64 (zs.getD k 0))) := by
  obtain ⟨Y, h1, h2, h3, h4⟩ := h.row
  have ht := take_next zs k hk
  have hlt := h.lt
  have hf : (zs.take (k + 1)).filter (fun x => !p x) = (zs.take k).filter (fun x => !p x) ++ [zs.getD k 0] := by
    revert ht hp; generalize zs.getD k 0 = x; intro hp ht; rw [ht, List.filter_append]; simp [hp]
  have hg := (owns_at h1 (j := k) (ints1_get (drop_get h4 hk)) hk).2.2.2.1
  refine ⟨⟨Y.set m (zs.getD k 0), ?_, by rw [List.length_set]; exact h2, ?_, ?_⟩, by rw [hf]; simp [h.len], by omega, hk, (h.bel.trans (hb.mono h.bel.size)).setCell (p := ⟨gb, m, none⟩) hg _⟩
  · have := afowns_turn (j := m) (.int .i64 (zs.getD k 0)) (owns_below h1 hb)
    rwa [← List.map_set] at this
  · rw [hf, ← h3]
    apply List.ext_getElem?
    intro j
    have hml : m < Y.length := by omega
    by_cases e : j = m
    · subst e
      rw [List.getElem?_take_of_lt (by omega), List.getElem?_set_self (by omega), List.getElem?_append_right (by simp; omega)]
      simp [Nat.min_eq_left (Nat.le_of_lt hml)]
    · by_cases hj : j < m
      · rw [List.getElem?_take_of_lt (by omega), List.getElem?_set_ne (by omega), List.getElem?_append_left (by simp; omega), List.getElem?_take_of_lt hj]
      · rw [List.getElem?_eq_none (by simp; omega), List.getElem?_eq_none (by simp; omega)]
  · have : (Y.drop k).drop 1 = (zs.drop k).drop 1 := by rw [h4]
    rw [List.drop_drop, List.drop_drop] at this
    rw [List.drop_set_of_lt (by omega)]
    exact this

set_option maxRecDepth 100000 in
set_option maxHeartbeats 2000000 in
theorem deleteF_any (w0 : World) (g : FuncId) (lb : Array Value) (eg : ∀ args w, (callFunc g args).run Tryz.prog w = .ok (.enter g args) w) (zs : List Int) (p : Int → Bool) (hd : DelSays w0 g lb zs p)
    (v : Value) (w : World) (hb : Below w0.heap.size w0 w) (hr : w.ownsRow w0.heap.size 3 1 v zs.length (ints1 zs)) (hz : zs.length ≤ 4000000) :
    Calls Tryz.prog 37 #[v, .func (.func g) #[] lb] w fun e w' =>
      ∃ u, e = .returned u ∧ w'.ownsRow w0.heap.size 3 1 u (zs.filter fun x => !p x).length (ints1 (zs.filter fun x => !p x)) ∧ Below w0.heap.size w0 w' := by
  have hidx := idxFi_any w0 g lb eg zs p hd v w hb (Row.owned hr) hz
  obtain ⟨o, c, rfl⟩ := (show ∃ o c, v = .slice o zs.length c by obtain ⟨o, c, e, _⟩ := Row.owned hr; exact ⟨o, c, e⟩)
  have HR := Lib.hid hr
  have HD := Lib.hid hd
  clear hr hd
  by_cases hno : ∀ x ∈ zs, p x = false
  · have hidx' : Calls Tryz.prog 65 #[.slice o zs.length c, .func (.func g) #[] lb] w fun e w' => e = .returned (.int .i64 (-1)) ∧ Below w.heap.size w w' := by
      refine hidx.mono ?_
      rintro e w1 ⟨⟨i, rfl, ⟨rfl, _⟩ | ⟨k, rfl, hk, _, hyes⟩⟩, hb1⟩
      · exact ⟨rfl, hb1⟩
      · rw [hno _ (by rw [List.getD_eq_getElem?_getD, List.getElem?_eq_getElem hk]; exact List.getElem_mem hk)] at hyes; cases hyes
    have hf : (zs.filter fun x => !p x) = zs := List.filter_eq_self.2 (fun x hx => by simp [hno x hx])
    have HF := Lib.hid hf
    clear hf hno hidx
    go_enter Tryz.func37, Tryz.ntmps37
    go_wp2_with (go_at_call 65; refine hidx'.mono ?_; rintro e w1 ⟨rfl, hb1⟩)
    go_ret
    rw [HF.out]
    exact ⟨_, rfl, owns_below HR.out hb1, hb.trans (hb1.mono hb.size)⟩
  · obtain ⟨k, hk, hbef, hat⟩ : ∃ k, k < zs.length ∧ (∀ x ∈ zs.take k, p x = false) ∧ p (zs.getD k 0) = true := by
      have hex : ∃ x ∈ zs, p x = true := by
        apply Classical.byContradiction
        intro hc
        exact hno (fun x hx => by cases e : p x with | false => rfl | true => exact absurd ⟨x, hx, e⟩ hc)
      have h1 := List.findIdx_lt_length_of_exists hex
      refine ⟨zs.findIdx p, h1, fun x hx => ?_, ?_⟩
      · obtain ⟨j, hj, rfl⟩ := List.mem_iff_getElem.1 hx
        rw [List.length_take] at hj
        rw [List.getElem_take]
        have := List.not_of_lt_findIdx (p := p) (xs := zs) (i := j) (by omega)
        simpa using this
      · rw [List.getD_eq_getElem?_getD, List.getElem?_eq_getElem h1]; exact List.findIdx_getElem
    have hidx' : Calls Tryz.prog 65 #[.slice o zs.length c, .func (.func g) #[] lb] w fun e w' => e = .returned (.int .i64 (k : Int)) ∧ Below w.heap.size w w' := by
      refine hidx.mono ?_
      rintro e w1 ⟨⟨i, rfl, ⟨rfl, hall⟩ | ⟨k', rfl, hk', hb', hyes⟩⟩, hb1⟩
      · exact absurd hall hno
      · refine ⟨?_, hb1⟩
        have hin : ∀ a b : Nat, a < b → b < zs.length → (∀ x ∈ zs.take b, p x = false) → p (zs.getD a 0) = true → False := by
          intro a b hab hbl hall h
          rw [hall _ (by rw [List.getD_eq_getElem?_getD, List.getElem?_eq_getElem (by omega)]; exact List.mem_iff_getElem.2 ⟨a, by simp; omega, by simp⟩)] at h
          cases h
        have : k' = k := by
          rcases Nat.lt_trichotomy k' k with h | h | h
          · exact (hin k' k h hk hbef hyes).elim
          · exact h
          · exact (hin k k' h hk' hb' hat).elim
        rw [this]
    have HBEF := Lib.hid hbef
    have HAT := Lib.hid hat
    clear hidx hno hbef hat
    obtain ⟨gb, rfl⟩ : ∃ gb, o = some ⟨gb, 0, none⟩ := by
      rcases HR.out.2 with ⟨h0, h00⟩ | ⟨g', cap, cur, hv, _⟩
      · omega
      · cases hv; exact ⟨_, rfl⟩
    have hfb : (zs.take k).filter (fun x => !p x) = zs.take k := List.filter_eq_self.2 (fun x hx => by simp [HBEF.out x hx])
    have hstart : ∀ w1, Below w.heap.size w w1 → DelAt w0 zs p gb c (k + 1) k w1 := by
      intro w1 hb1
      have ht := take_next zs k hk
      have hf : (zs.take (k + 1)).filter (fun x => !p x) = zs.take k := by
        have hat := HAT.out
        revert ht hat; generalize zs.getD k 0 = x; intro ht hat; rw [ht, List.filter_append, hfb]; simp [hat]
      exact ⟨⟨zs, owns_below HR.out hb1, rfl, by rw [hf], rfl⟩, by rw [hf]; simp; omega, by omega, hk, hb.trans (hb1.mono hb.size)⟩
    have HST := Lib.hid hstart
    clear hstart hfb
    have hv0 : ∀ w, (zeroValue 3).run Tryz.prog w = .ok (.int .i64 0) w := Tryz.zeroValue3
    go_enter Tryz.func37, Tryz.ntmps37
    go_wp2_with (go_at_call 65; refine hidx'.mono ?_; rintro e w1 ⟨rfl, hb1⟩)
    have HS0 := HST.out w1 hb1
    clear hb1
    go_loopg [5, 6] (zs.length - (k + 1)) (fun gg s5 s6 wx => ∃ j m : Nat, j + gg = zs.length ∧ s6 = .int .i64 (j : Int) ∧ s5 = .int .i64 (m : Int) ∧ DelAt w0 zs p gb c j m wx)
    case atStart => exact ⟨k + 1, k, by omega, by simp, rfl, HS0⟩
    case round =>
      obtain ⟨j, m, hj, rfl, rfl, hS⟩ := hrel
      have HS := Lib.hid hS
      have hmj := hS.lt
      clear hS
      obtain ⟨Y, hY1, hY2, hY3, hY4⟩ := HS.out.row
      have HY1 := Lib.hid hY1
      have HY3 := Lib.hid hY3
      clear hY3
      by_cases hlt : j < zs.length
      · obtain ⟨x, hx⟩ : ∃ x, x = zs.getD j 0 := ⟨_, rfl⟩
        have hgx := drop_get hY4 hlt
        rw [← hx] at hgx
        obtain ⟨hcx, _, hgb, hgB, hnc⟩ := owns_at hY1 (ints1_get hgx) hlt
        have hmem : x ∈ zs := by rw [hx, List.getD_eq_getElem?_getD, List.getElem?_eq_getElem hlt]; exact List.getElem_mem hlt
        have hcall := HD.out x wr hmem HS.out.bel
        obtain ⟨y, hy⟩ : ∃ y, Y[m]? = some y := ⟨_, List.getElem?_eq_getElem (by omega)⟩
        have hat2 := fun w2 (hb2 : Below wr.heap.size wr w2) => owns_at (owns_below HY1.out hb2) (ints1_get hy) (by omega)
        have HAT2 := Lib.hid hat2
        have HX := Lib.hid hx
        obtain ⟨g1, hg1⟩ : ∃ g1, g1 + 1 = gk := ⟨gk - 1, by omega⟩
        obtain ⟨q, hq⟩ : ∃ q, p x = q := ⟨_, rfl⟩
        rw [hq] at hcall
        have HQ := Lib.hid hq
        have HY := Lib.hid hy
        have HY4 := Lib.hid hY4
        clear hY1 hgx hmem hat2 hx hq hy hY4
        cases q
        · go_wp2_with (refine hcall.mono ?_; rintro e w2 ⟨rfl, hb2⟩; have hcm2 := (HAT2.out w2 hb2).1; have hfm2 := (HAT2.out w2 hb2).2.1)
          go_roundg g1
          case measure => omega
          case rel => exact ⟨j + 1, m + 1, by omega, by simp, by simp, by rw [HX.out]; exact HS.out.take hlt (by rw [← HX.out]; exact HQ.out) hb2⟩
        · go_wp2_with (refine hcall.mono ?_; rintro e w2 ⟨rfl, hb2⟩)
          go_roundg g1
          case measure => omega
          case rel => exact ⟨j + 1, m, by omega, by simp, rfl, HS.out.skip hlt (by rw [← HX.out]; exact HQ.out) hb2⟩
      · obtain rfl : j = zs.length := by omega
        have hall : ∀ t, t < zs.length → wr.cell? ⟨gb, t, none⟩ = some (.int .i64 (Y.getD t 0)) ∧ wr.frozen? ⟨gb, t, none⟩ = false := fun t ht => by
          have := owns_at hY1 (j := t) (u := .int .i64 (Y.getD t 0)) (ints1_get (by rw [List.getD_eq_getElem?_getD, List.getElem?_eq_getElem (by omega)]; rfl)) ht
          exact ⟨this.1, this.2.1⟩
        have hcl : ∀ ty, (Builtin.clear_ #[23] ty #[.slice (some ⟨gb, m, none⟩) (zs.length - m) (c - m)]).run Tryz.prog wr = .ok (.tuple #[]) (wr.setCells gb m (List.replicate (zs.length - m) (.int .i64 0))) :=
          fun ty => Lib.run_clear_slice wr _ _ ty _ Tryz.underlying23 hv0 rfl rfl gb m _ _ (by omega) (fun t ht => by rw [(hall (m + t) (by omega)).1]; rfl) (fun t ht => (hall (m + t) (by omega)).2)
        have hnc : zs.length ≤ c := by
          rcases hY1.2 with ⟨h0, _⟩ | ⟨g', cap, cur, hv, _, _, hc1, _⟩
          · cases h0
          · cases hv; exact hc1
        clear hall hY1 hY4
        go_wp2_with fail
        go_ret
        obtain ⟨X', hX1, hX2⟩ := owns_setCells (List.replicate (zs.length - m) (.int .i64 0)) m wr _ HY1.out (by simp; omega)
        have hcut := owns_cut hX1 (Nat.le_of_lt hmj)
        have hfl := HS.out.len
        have hf3 := HY3.out
        rw [List.take_length] at hfl hf3
        have hgB : w0.heap.size ≤ gb := by
          rcases HY1.out.2 with ⟨h0, _⟩ | ⟨g', cap, cur, hv, hb, _⟩
          · cases h0
          · cases hv; exact hb
        refine ⟨_, rfl, ?_, bel_setCells hgB _ _ _ HS.out.bel⟩
        rw [hX2, ← List.map_take, hf3] at hcut
        rw [hfl]
        exact hcut
end Go.Proofs.YtmgfpcblbbpahaaGreat
