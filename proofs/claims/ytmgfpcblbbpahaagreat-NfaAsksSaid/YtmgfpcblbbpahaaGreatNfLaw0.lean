/- What the laws of layer 7 rest on: plain mathematics. -/
import Derived.Deep.RegionHeld
import Derived.Deep.DeepCutAuto
import Derived.Deep.RegionHeld3
import Derived.Deep.RegionLaw
import Derived.Deep.LoopGhost
import Derived.Test.YtmgfpcblbbpahaaGreatNfBld
set_option linter.unusedVariables false
set_option linter.unusedSimpArgs false
namespace Go.Proofs.YtmgfpcblbbpahaaGreat
open Go.RowKit Ru

namespace M6
def lastR (s : List RE) : RE := s.getLast?.getD (.mk 0 [] [])
def oneR (r : Int) : RE := .mk 2 [(r, r)] []
def leafR (a b : Int) : RE := .mk 2 [(97 + a, 97 + a + b)] []
def stepR (k : Int) (s : List RE) : List RE :=
  let v := ((IntKind.u64.wrap k).tmod 9).toNat
  if v < 4 ∨ s.length = 0 then s ++ [leafR (bits BinOp.and IntKind.i64 k 1) (bits BinOp.and IntKind.i64 (v : Int) 1)]
  else if v = 4 then s.dropLast ++ [.mk 5 [] [lastR s]]
  else if 1 < s.length ∧ v < 7 then s.dropLast.dropLast ++ [.mk 3 [] [lastR s.dropLast, lastR s]]
  else if 1 < s.length then s.dropLast.dropLast ++ [.mk 4 [] [lastR s.dropLast, lastR s]]
  else if v = 8 then s ++ [.mk 1 [] []]
  else s
def runR (l : List Int) : Nat → List RE
  | 0 => []
  | j + 1 => if j < l.length then stepR (l.getD j 0) (runR l j) else runR l j
theorem runR_next {l : List Int} {j : Nat} (h : j < l.length) : runR l (j + 1) = stepR (l.getD j 0) (runR l j) := if_pos h
inductive G6 : RE → Prop
  | empty : G6 (.mk 1 [] [])
  | leaf {a b : Int} (ha : 97 ≤ a) (hab : a ≤ b) (hb : b ≤ 99) : G6 (.mk 2 [(a, b)] [])
  | star {p : RE} (h : G6 p) : G6 (.mk 5 [] [p])
  | two {k : Int} {p q : RE} (hk : k = 3 ∨ k = 4) (h : G6 p) (h2 : G6 q) : G6 (.mk k [] [p, q])
theorem g6_one {r : Int} (h : 97 ≤ r ∧ r ≤ 99) : G6 (oneR r) := .leaf h.1 (Int.le_refl _) h.2
theorem G6.fit {e : RE} (h : G6 e) : e.Fit := by
  induction h with
  | empty => exact .mk _ _ _ (fun p hp => by simp at hp) (by simp) (by simp) (fun i e he => by simp at he)
  | leaf ha hab hb => exact .mk _ _ _ (fun p hp => by simp at hp; subst hp; simp; omega) (by simp) (by simp) (fun i e he => by simp at he)
  | star h ih => exact .mk _ _ _ (fun p hp => by simp at hp) (by simp) (by simp) (fun i e he => by
      match i, he with
      | 0, he => cases he; exact ih
      | i + 1, he => simp at he)
  | two hk h h2 ih ih2 => exact .mk _ _ _ (fun p hp => by simp at hp) (by simp) (by simp) (fun i e he => by
      match i, he with
      | 0, he => cases he; exact ih
      | 1, he => cases he; exact ih2
      | i + 2, he => simp at he)
theorem lastR_snoc (s : List RE) (p : RE) : lastR (s ++ [p]) = p := by simp [lastR]
end M6
end Go.Proofs.YtmgfpcblbbpahaaGreat

namespace Go.Proofs.YtmgfpcblbbpahaaGreat
open Go.RowKit Ru

abbrev Rt := RE × Value × Value
abbrev thr (p : Rt) : List Value := [.int .i64 p.1.kind, p.2.1, p.2.2]
abbrev ReO (X : Nat → Prop) (w : World) (B : Nat) (v : Value) (ps : List Rt) : Prop := Own X w B 41 3 v thr (fun w' p => ReIs w' p.1 p.2.1 p.2.2) ps
structure K6 (l : List Int) (w : World) (j : Nat) (o : Option Addr) (n c : Nat) (ps : List Rt) (wx : World) : Prop where
  len : ps.length = n
  own : ReO (fun k => w.heap.size < k) wx (w.heap.size + 1) (.slice o n c) ps
  run : ps.map (·.1) = M6.runR l j
  bel : Below w.heap.size w wx
  rb : wx.heap[w.heap.size]? = some (.cells #[.int .i64 0, .slice none 0 0, .slice none 0 0] 41 (0, 0))
section
variable {l : List Int} {w wx wy X w9 : World} {j n c c9 : Nat} {o o9 : Option Addr} {ps : List Rt}
theorem K6.now {k : Int} {v : Nat} (h : K6 l w j o n c ps wx) (hj : (j : Int) < (l.length : Int)) (hk : k = l.getD j 0) (hv : (IntKind.u64.wrap k).tmod 9 = (v : Int)) :
    (ps.map (·.1)).length = n ∧ M6.runR l (j + 1) = M6.stepR k (ps.map (·.1)) ∧ ((IntKind.u64.wrap k).tmod 9).toNat = v := by
  refine ⟨by rw [List.length_map]; exact h.len, ?_, by rw [hv]; omega⟩
  rw [M6.runR_next (by omega), ← hk, ← h.run]
theorem K6.pair {k K : Int} {v m : Nat} {q r : Rt} (h : K6 l w j o (m + 2) c (ps ++ [q, r]) wx) (hj : (j : Int) < (l.length : Int)) (hk : k = l.getD j 0) (hv : (IntKind.u64.wrap k).tmod 9 = (v : Int)) (hc : 4 < v) (hK : K = if v < 7 then 3 else 4) :
    ps.map (·.1) ++ [.mk K [] [q.1, r.1]] = M6.runR l (j + 1) := by
  obtain ⟨e1, e2, e3⟩ := h.now hj hk hv
  have e : (ps ++ [q, r]).map (·.1) = (ps.map (·.1) ++ [q.1]) ++ [r.1] := by simp
  rw [e2]; unfold M6.stepR; rw [e3, e1, if_neg (by omega), if_neg (by omega)]
  split
  · rw [hK, if_pos (by omega), e, List.dropLast_concat, List.dropLast_concat, M6.lastR_snoc, M6.lastR_snoc]
  · rw [if_pos (by omega), hK, if_neg (by omega), e, List.dropLast_concat, List.dropLast_concat, M6.lastR_snoc, M6.lastR_snoc]
end
theorem six_leaf {w : World} {a b : Int} {q : Nat} (hq : w.heap[q]? = some (.cells #[.int .i32 a, .int .i32 b] 54 (0, 0))) : ReIs w (.mk 2 [(a, b)] []) (.slice (some ⟨q, 0, none⟩) 1 1) (.slice none 0 0) := by
  refine .mk 2 [(a, b)] [] _ _ [] ⟨_, 1, rfl, Nat.le_refl _, by show (1 : Nat) ≤ _; decide, .inr ⟨q, 0, rfl, hp_lt hq, fun j u hu => ?_⟩⟩ ⟨none, 0, rfl, by decide, by decide, .inl ⟨rfl, fun _ => rfl⟩⟩ rfl ?_ ?_
  · unfold World.cell?
    rw [show (⟨q, 0 + j, none⟩ : Addr).block = q from rfl, hq]
    match j, hu with
    | 0, h => simpa [flatK] using h
    | 1, h => simpa [flatK] using h
    | j + 2, h => simp [flatK] at h
  · intro i e p he; simp at he
  · intro i e p he; simp at he
end Go.Proofs.YtmgfpcblbbpahaaGreat

namespace Go.Proofs.YtmgfpcblbbpahaaGreat
open Go.RowKit Ru

set_option maxHeartbeats 8000000 in
set_option maxRecDepth 100000 in
theorem one_exact (r : Int) (w : World) :
    Calls Tryz.prog 34 #[.int .i32 r] w fun e w' => e = .returned (.agg #[.int .i64 2, .slice (some ⟨w.heap.size + 1, 0, none⟩) 1 1, .slice none 0 0]) ∧ w' = (w.alloc (.cells #[.int .i64 2, .slice (some ⟨w.heap.size + 1, 0, none⟩) 1 1, .slice none 0 0] 41)).alloc (.cells #[.int .i32 r, .int .i32 r] 54) := by
  go_enter Tryz.func34, Tryz.ntmps34
  go_wp2_with fail
  simp [bodyPost, results, Tryz.results34, go_sem]
end Go.Proofs.YtmgfpcblbbpahaaGreat

namespace Go.Proofs.YtmgfpcblbbpahaaGreat
open Go.RowKit Ru

end Go.Proofs.YtmgfpcblbbpahaaGreat

namespace Go.Proofs.YtmgfpcblbbpahaaGreat
open Go.RowKit Ru

theorem reis_list {w : World} {B : Nat} {v : Value} {ps : List Rt} (hown : w.ownsRow B 41 3 v ps.length (ps.flatMap thr)) (hk : ∀ p ∈ ps, ReIs w p.1 p.2.1 p.2.2) : ReIs w (.mk 0 [] (ps.map (·.1))) (.slice none 0 0) v := by
  refine .mk 0 [] _ _ _ (ps.map fun p => (p.1.kind, p.2.1, p.2.2)) (Row.nil w) ?_ (by simp) ?_ ?_
  · have := Row.owned hown
    rw [List.length_map]
    have e : trip (ps.map fun p => (p.1.kind, p.2.1, p.2.2)) = ps.flatMap thr := by unfold trip; rw [List.flatMap_map]
    rw [e]; exact this
  · intro i e q he hq
    rw [List.getElem?_map] at he hq
    cases h : ps[i]? with
    | none => rw [h] at he; simp at he
    | some p => rw [h] at he hq; simp at he hq; subst he hq; rfl
  · intro i e q he hq
    rw [List.getElem?_map] at he hq
    cases h : ps[i]? with
    | none => rw [h] at he; simp at he
    | some p => rw [h] at he hq; simp at he hq; subst he hq; exact hk p (List.mem_of_getElem? h)
set_option maxHeartbeats 1000000 in
set_option maxRecDepth 1000000 in
theorem ints7_same (zs : List Int) (v u : Value) (w : World) (hr : Row w v zs.length (zs.map (Value.int .i64))) (hs : Row w u zs.length (zs.map (Value.int .i64))) (hl : zs.length ≤ 100000000) :
    Calls Tryz.prog 13 #[v, u] w fun e w' => e = .returned (.bool true) ∧ Below w.heap.size w w' := by
  obtain ⟨o, cap, rfl, hcap, hmax, hrow⟩ := hr
  obtain ⟨o2, cap2, rfl, hcap2, hmax2, hrow2⟩ := hs
  go_enter Tryz.func13, Tryz.ntmps13
  go_wp2
  go_loopw [5] (fun i wr => ∃ k : Nat, k ≤ zs.length ∧ i = .int .i64 k ∧ Below w.heap.size w wr)
    (fun i _ => zs.length - (intOf i).toNat)
  case atStart => exact ⟨0, Nat.zero_le _, rfl, Below.refl _ _⟩
  case round =>
    obtain ⟨k, hk, rfl, hbel⟩ := hrel
    by_cases hk2 : k < zs.length
    · rcases hrow with h0 | ⟨b, off, rfl, hlt, hc⟩
      · omega
      rcases hrow2 with h0 | ⟨b2, off2, rfl, hlt2, hc2⟩
      · omega
      obtain ⟨x, hx⟩ : ∃ x, x = zs.getD k 0 := ⟨_, rfl⟩
      have hcx : wr.cell? ⟨b, off + k, none⟩ = some (.int .i64 x) := by rw [hbel.cell hlt]; rw [hx]; exact hc k _ (getElem?_ints hk2)
      have hcx2 : wr.cell? ⟨b2, off2 + k, none⟩ = some (.int .i64 x) := by rw [hbel.cell hlt2]; rw [hx]; exact hc2 k _ (getElem?_ints hk2)
      clear hc hc2 hx
      go_wp2
      go_region
      all_goals (try go_wp2)
      all_goals go_roundw
      all_goals first
        | (case rel => exact ⟨k + 1, by omega, by go_num, by repeat (first | exact Below.refl _ _ | assumption | (refine Below.drew ?_) | (refine below_drewN ?_ _))⟩)
        | (case measure => simp [intOf]; omega)
    · go_wp2
      go_ret
      exact ⟨rfl, by repeat (first | exact Below.refl _ _ | assumption | (refine Below.drew ?_) | (refine below_drewN ?_ _))⟩
end Go.Proofs.YtmgfpcblbbpahaaGreat

namespace Go.Proofs.YtmgfpcblbbpahaaGreat
open Go.RowKit Ru

theorem cells_any {w : World} {pb : Nat} {S : List (List Pc)} {F E : List (List Int)} {C : List Pc} {so fo eo co : Option Addr} {sc fc ec cc : Nat} {ss fs es : List Value} (h : NIs w pb S F E C so fo eo co sc fc ec cc ss fs es) (hC : C.length ≤ 1000000) :
    Calls Tryz.prog 20 #[.pointer (some ⟨pb, 0, none⟩)] w fun e w' => ∃ u, e = .returned u ∧ w'.ownsRow w.heap.size 54 2 u C.length (flatK .i32 C) ∧ Below w.heap.size w w' := by
  have hcl := cloneR_any C _ w h.cells hC
  have HC := Lib.hid hcl
  have hc3 := h.c3
  clear h hcl
  go_enter Tryz.func20, Tryz.ntmps20
  go_wp2_with (go_at_call 47; refine HC.out.mono ?_; rintro e w' ⟨u, rfl, ho, hb⟩)
  go_ret
  exact ⟨u, rfl, ho, hb⟩
end Go.Proofs.YtmgfpcblbbpahaaGreat

namespace Go.Proofs.YtmgfpcblbbpahaaGreat
open Go.RowKit Ru

def Nf.tL : List RE := [M6.oneR 97]
theorem nt_s : Nf.mS Nf.tL = [[], [(97, 97)]] := by decide +kernel
theorem nt_e : Nf.mE Nf.tL = [[], [0]] := by decide +kernel
theorem nt_f : Nf.mF Nf.tL = [[1], []] := by decide +kernel
theorem nt_c : cutsF (Nf.mS Nf.tL) = [(97, 97)] := by decide +kernel
theorem nt_n0 : nextL [[], [(97, 97)]] [[1], []] [0] 97 = [1] := by decide +kernel
theorem nt_n1 : nextL [[], [(97, 97)]] [[1], []] [1] 97 = [] := by decide +kernel
theorem nt_r1 : Nf.gat [[], [0]] [1] = [0] := by decide +kernel
theorem nt_r2 : Nf.gat [[], [0]] [0, 7] = [] := by decide +kernel
theorem row_lit {w : World} {cs : List Value} {n : Nat} (hn : cs.length = n) (hm : n ≤ 1000) : Row (w.alloc (.cells cs.toArray 3)) (.slice (some ⟨w.heap.size, 0, none⟩) n n) n cs := by
  have := Row.owned (afrow_block (w := w.alloc (.cells cs.toArray 3)) (g := w.heap.size) (n := n) (size := 1) (heap_alloc_new w _) (by simpa using hn) (by unfold maxLen; omega))
  simpa using this
theorem reis_nil (w : World) : ReIs w (.mk 0 [] []) (.slice none 0 0) (.slice none 0 0) := .mk 0 [] [] _ _ [] (Row.nil w) (Row.nil w) rfl (fun i e p h => by simp at h) (fun i e p h => by simp at h)
theorem fit_list {l : List RE} (h : ∀ e ∈ l, e.Fit) (hl : l.length ≤ 1000) : (RE.mk 0 [] l).Fit := .mk 0 [] l (fun p hp => by simp at hp) (by simp) hl (fun i e he => h e (List.mem_of_getElem? he))
theorem tL_fit : (RE.mk 0 [] Nf.tL).Fit := fit_list (fun e he => by unfold Nf.tL at he; rw [List.mem_singleton] at he; subst he; exact (M6.g6_one (by decide)).fit) (by decide)
theorem tL_takes : Nf.takes (RE.mk 0 [] Nf.tL).parts = true := by decide +kernel
theorem one_list (wr W : World) (hW : W = ((wr.alloc (.cells #[.int .i64 2, .slice (some ⟨wr.heap.size + 1, 0, none⟩) 1 1, .slice none 0 0] 41)).alloc (.cells #[.int .i32 97, .int .i32 97] 54)).alloc (.cells #[.int .i64 2, .slice (some ⟨wr.heap.size + 1, 0, none⟩) 1 1, .slice none 0 0] 41)) :
    ReIs W (.mk 0 [] Nf.tL) (.slice none 0 0) (.slice (some ⟨wr.heap.size + 1 + 1, 0, none⟩) 1 1) ∧ Below wr.heap.size wr W := by
  have hb1 : Below wr.heap.size wr W := by rw [hW]; exact bel_new (bel_new (bel_new (Below.refl _ _) _) _) _
  have q1 : W.heap[wr.heap.size + 1]? = some (.cells #[.int .i32 97, .int .i32 97] 54 (0, 0)) := by
    rw [hW, Below.heap_alloc _ _ _ (by simp)]
    have := heap_alloc_new (wr.alloc (.cells #[.int .i64 2, .slice (some ⟨wr.heap.size + 1, 0, none⟩) 1 1, .slice none 0 0] 41)) (.cells #[.int .i32 97, .int .i32 97] 54)
    rwa [World.size_alloc] at this
  have q2 : W.heap[wr.heap.size + 1 + 1]? = some (.cells #[.int .i64 2, .slice (some ⟨wr.heap.size + 1, 0, none⟩) 1 1, .slice none 0 0] 41 (0, 0)) := by
    rw [hW]
    have := heap_alloc_new ((wr.alloc (.cells #[.int .i64 2, .slice (some ⟨wr.heap.size + 1, 0, none⟩) 1 1, .slice none 0 0] 41)).alloc (.cells #[.int .i32 97, .int .i32 97] 54)) (.cells #[.int .i64 2, .slice (some ⟨wr.heap.size + 1, 0, none⟩) 1 1, .slice none 0 0] 41)
    rwa [World.size_alloc, World.size_alloc] at this
  exact ⟨reis_list (ps := [(M6.oneR 97, .slice (some ⟨wr.heap.size + 1, 0, none⟩) 1 1, .slice none 0 0)]) (afrow_block (n := 1) (size := 3) q2 rfl (by decide)) (fun p hp => by
    rw [List.mem_singleton] at hp
    subst hp
    exact six_leaf q1), hb1⟩
set_option maxRecDepth 100000 in
set_option maxHeartbeats 8000000 in
theorem told7_any (w : World) : Calls Tryz.prog 10 #[] w fun e w' => e = .returned (.bool true) ∧ Below w.heap.size w w' := by
  go_enter Tryz.func10, Tryz.ntmps10
  go_wp2_with (go_at_call 34; refine (one_exact _ _).mono ?_; rintro e w2 ⟨rfl, rfl⟩)
  obtain ⟨W, hW⟩ : ∃ W, W = ((w.alloc (.cells #[.int .i64 2, .slice (some ⟨w.heap.size + 1, 0, none⟩) 1 1, .slice none 0 0] 41)).alloc (.cells #[.int .i32 97, .int .i32 97] 54)).alloc (.cells #[.int .i64 2, .slice (some ⟨w.heap.size + 1, 0, none⟩) 1 1, .slice none 0 0] 41) := ⟨_, rfl⟩
  obtain ⟨hre, hbW⟩ := one_list w W hW
  rw [← hW]
  clear hW
  refine (build_any _ _ _ W hre tL_fit tL_takes).mono ?_
  rintro x w2 ⟨pb, so, fo, eo, co, sc, fc, ec, cc, ss, fs, es, rfl, hn, hb2, hpb⟩
  rw [show (RE.mk 0 [] Nf.tL).parts = Nf.tL from rfl, nt_c, nt_s, nt_f, nt_e] at hn
  have HB2 := Lib.hid (bel_then hbW hb2)
  clear hre hbW hb2 hpb
  have HN := Lib.hid hn
  clear hn
  go_wp2_with fail
  refine (build_bad _ _ _ w2 (reis_nil w2) (fit_list (l := []) (fun e he => by simp at he) (by simp)) (by decide +kernel)).mono ?_
  rintro x w3 ⟨rfl, hb3⟩
  have HB3 := Lib.hid hb3
  clear hb3
  go_wp2_with fail
  have hx0 := next_any (HN.out.moved (bel_then HB3.out (bel_new (Below.refl _ _) (.cells #[.int .i64 0] 3)))) [0] (some ⟨w3.heap.size, 0, none⟩) 1 (row_lit (w := w3) (cs := [.int .i64 0]) (n := 1) rfl (by omega)) (by decide) 97
  rw [nt_n0] at hx0
  refine hx0.mono ?_
  rintro x w4 ⟨u4, rfl, hu4, hb4⟩
  have hb4' : Below w3.heap.size w3 w4 := bel_then (bel_new (Below.refl _ _) _) hb4
  have HB4 := Lib.hid hb4'
  obtain ⟨o4, c4, rfl⟩ := nf_slice hu4
  have hr4 := Row.owned hu4
  clear hb4 hb4' hu4 hx0
  have HR4 := Lib.hid hr4
  obtain ⟨b4, f4, rfl, hl4, hc4⟩ := adrow_at (i := 0) hr4 (u := .int .i64 1) rfl (by decide)
  clear hr4
  rw [show [(1 : Int)].length = 1 from rfl]
  have hx5 := rules_any (HN.out.moved (bel_then HB3.out HB4.out)) [1] (some ⟨b4, f4, none⟩) c4 HR4.out (by decide)
  rw [nt_r1] at hx5
  have HX5 := Lib.hid hx5
  clear hx5
  go_wp2_with fail
  refine HX5.out.mono ?_
  rintro x w5 ⟨u5, rfl, hu5, hb5⟩
  have HB5 := Lib.hid hb5
  obtain ⟨o5, c5, rfl⟩ := nf_slice hu5
  have hr5 := Row.owned hu5
  clear hu5 hb5
  have HR5 := Lib.hid hr5
  obtain ⟨b5, f5, rfl, hl5, hc5⟩ := adrow_at (i := 0) hr5 (u := .int .i64 0) rfl (by decide)
  clear hr5
  rw [show [(0 : Int)].length = 1 from rfl]
  rw [← HB5.out.cell hl4] at hc4
  rw [Nat.add_zero] at hc4 hc5
  have hlen := len_any (HN.out.moved (bel_then HB3.out (bel_then HB4.out HB5.out)))
  have HL := Lib.hid hlen
  clear hlen
  go_wp2_with fail
  refine HL.out.mono ?_
  rintro x w6 ⟨rfl, rfl⟩
  rw [show (([[], [(97, 97)]] : List (List Pc)).length : Int) = 2 from rfl]
  have hx7 := next_any (HN.out.moved (bel_then HB3.out (bel_then HB4.out HB5.out))) [1] (some ⟨b4, f4, none⟩) c4 (HR4.out.below HB5.out) (by decide) 97
  rw [nt_n1] at hx7
  have HX7 := Lib.hid hx7
  clear hx7
  go_wp2_with fail
  refine HX7.out.mono ?_
  rintro x w7 ⟨u7, rfl, hu7, hb7⟩
  have HB7 := Lib.hid hb7
  obtain ⟨o7, c7, rfl⟩ := nf_slice hu7
  clear hu7 hb7
  rw [show ([] : List Int).length = 0 from rfl]
  have hx8 := cells_any (HN.out.moved (bel_then HB3.out (bel_then HB4.out (bel_then HB5.out HB7.out)))) (by decide)
  have HX8 := Lib.hid hx8
  clear hx8
  go_wp2_with fail
  refine HX8.out.mono ?_
  rintro x w8 ⟨u8, rfl, hu8, hb8⟩
  have HB8 := Lib.hid hb8
  obtain ⟨o8, c8, rfl⟩ := Row.form (Row.owned hu8)
  clear hu8 hb8
  rw [show ([(97, 97)] : List Pc).length = 1 from rfl]
  have hx9 := rules_any ((HN.out.moved (bel_then HB3.out (bel_then HB4.out (bel_then HB5.out (bel_then HB7.out HB8.out))))).moved (bel_new (Below.refl _ _) (.cells #[.int .i64 0, .int .i64 7] 3))) [0, 7] (some ⟨w8.heap.size, 0, none⟩) 2 (row_lit (w := w8) (cs := [.int .i64 0, .int .i64 7]) (n := 2) rfl (by omega)) (by decide)
  rw [nt_r2] at hx9
  have HX9 := Lib.hid hx9
  clear hx9
  go_wp2_with fail
  refine HX9.out.mono ?_
  rintro x w9 ⟨u9, rfl, hu9, hb9⟩
  have HB9 := Lib.hid (show Below w8.heap.size w8 w9 from bel_then (bel_new (Below.refl _ _) _) hb9)
  obtain ⟨o9, c9, rfl⟩ := nf_slice hu9
  clear hu9 hb9
  rw [show ([] : List Int).length = 0 from rfl]
  go_wp2_with fail
  refine (len_nil w9).mono ?_
  rintro x w10 ⟨rfl, rfl⟩
  go_wp2_with fail
  refine (next_nil _ 97 _).mono ?_
  rintro x w11 ⟨rfl, hb11⟩
  have HB11 := Lib.hid hb11
  clear hb11
  go_wp2_with fail
  go_ret
  exact ⟨rfl, bel_then HB2.out (bel_then HB3.out (bel_then HB4.out (bel_then HB5.out (bel_then HB7.out (bel_then HB8.out (bel_then HB9.out (bel_then (bel_new (Below.refl _ _) _) HB11.out)))))))⟩
end Go.Proofs.YtmgfpcblbbpahaaGreat

namespace Go.Proofs.YtmgfpcblbbpahaaGreat
open Go.RowKit Ru

namespace Nf
theorem mem_next (S : List (List Pc)) (F : List (List Int)) (l : List Int) (r x : Int) : x ∈ nextL S F l r ↔ (∃ s, s ∈ l ∧ 0 ≤ s ∧ s < (F.length : Int) ∧ x ∈ F.getD s.toNat []) ∧ has (S.getD x.toNat []) r = true := by
  unfold nextL
  rw [List.mem_filter, mem_gat]
  simp
theorem next_asc (S : List (List Pc)) (F : List (List Int)) (l : List Int) (r : Int) : (nextL S F l r).Pairwise (· < ·) := (ord_lt _).filter _
theorem next_len (S : List (List Pc)) (F : List (List Int)) (hfit : ∀ r ∈ F, ∀ x ∈ r, 0 ≤ x ∧ x < (S.length : Int)) (l : List Int) (r : Int) : (nextL S F l r).length ≤ S.length := by
  refine asc_len (next_asc S F l r) S.length fun x hx => ?_
  obtain ⟨⟨s, _, _, _, h2⟩, _⟩ := (mem_next S F l r x).1 hx
  rw [List.getD_eq_getElem?_getD] at h2
  cases e : F[s.toNat]? with
  | none => rw [e] at h2; simp at h2
  | some q => rw [e] at h2; exact hfit q (List.mem_of_getElem? e) x h2
end Nf
end Go.Proofs.YtmgfpcblbbpahaaGreat
