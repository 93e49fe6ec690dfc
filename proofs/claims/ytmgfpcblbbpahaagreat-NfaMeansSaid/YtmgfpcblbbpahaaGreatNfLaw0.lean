/- What the laws of layer 7 rest on: plain mathematics. -/
import Derived.Test.YtmgfpcblbbpahaaGreatM6W
import Derived.Test.YtmgfpcblbbpahaaGreatNfBld
set_option linter.unusedVariables false
set_option linter.unusedSimpArgs false
namespace Go.Proofs.YtmgfpcblbbpahaaGreat
open Go.RowKit Ru

def Nf.resL (F : List (List Int)) : List RE := if F.length = 0 then [M6.oneR 97] else (F.take 4).map M6.makeR
theorem reis_list {w : World} {B : Nat} {v : Value} {ps : List Rt} (hown : w.ownsRow B 41 3 v ps.length (ps.flatMap thr)) (hk : ∀ p ∈ ps, ReIs w p.1 p.2.1 p.2.2) : ReIs w (.mk 0 [] (ps.map (·.1))) (.slice none 0 0) v := by
  refine .mk 0 [] _ _ _ (ps.map fun p => (p.1.kind, p.2.1, p.2.2)) (Row.nil w) ?_ (by simp) ?_ ?_
  · have := Row.owned hown
    rw [List.length_map]
    have e : trip (ps.map fun p => (p.1.kind, p.2.1, p.2.2)) = ps.flatMap thr := by unfold trip; rw [List.flatMap_map]
    rw [e]; exact this
  · intro i e q he hq
    rw [List.getElem?_map] at he hq
    cases h : ps[i]? with
    | none => rw [h] at he; simp at he
    | some p => rw [h] at he hq; simp at he hq; subst he hq; rfl
  · intro i e q he hq
    rw [List.getElem?_map] at he hq
    cases h : ps[i]? with
    | none => rw [h] at he; simp at he
    | some p => rw [h] at he hq; simp at he hq; subst he hq; exact hk p (List.mem_of_getElem? h)
structure RS (w0 w : World) (v : Value) (ps : List Rt) : Prop where
  own : ReO (fun k => w0.heap.size ≤ k) w w0.heap.size v ps
  bel : Below w0.heap.size w0 w
set_option maxRecDepth 100000 in
set_option maxHeartbeats 4000000 in
theorem res_any (F : List (List Int)) (vs : List Value) (v : Value) (w : World) (h : RowsI w v vs F) :
    Calls Tryz.prog 9 #[v] w fun e w' => ∃ u, e = .returned u ∧ ReIs w' (.mk 0 [] (Nf.resL F)) (.slice none 0 0) u ∧ Below w.heap.size w w' := by
  obtain ⟨ip, hp0, hp1, hp2, hp3⟩ := infoReM
  obtain ⟨o0, c0, rfl⟩ : ∃ o c, v = .slice o F.length c := by obtain ⟨o, c, e, _⟩ := h.row; exact ⟨o, c, e⟩
  have H := Lib.hid h
  have H0 := Lib.hid (show RS w w (.slice none 0 0) [] from ⟨Own.nil, Below.refl _ _⟩)
  clear h
  go_enter Tryz.func9, Tryz.ntmps9
  go_wp2_with fail
  go_loopg [3, 4] 4 (fun g s3 s4 wx => ∃ (k : Nat) (o : Option Addr) (c : Nat) (ps : List Rt), k + g = 4 ∧ k ≤ F.length ∧ s4 = .int .i64 (k : Int) ∧ s3 = .slice o k c ∧ RS w wx (.slice o k c) ps ∧ ps.map (·.1) = (F.take k).map M6.makeR)
  case atStart => exact ⟨0, none, 0, [], rfl, Nat.zero_le _, rfl, rfl, H0.out, by simp⟩
  case round =>
    obtain ⟨k, o, c, ps, hk, hkF, rfl, rfl, hS, hps⟩ := hrel
    have hpl : ps.length = k := by have := congrArg List.length hps; simp at this; omega
    by_cases hlt : k < F.length ∧ k < 4
    · obtain ⟨g1, hg1⟩ : ∃ g1, g1 + 1 = gk := ⟨gk - 1, by omega⟩
      obtain ⟨hlF, hl4⟩ := hlt
      have hd1 : decide ((k : Int) < (F.length : Int)) = true := by simp; omega
      have hd2 : decide ((k : Int) < 4) = true := by simp; omega
      have hjl : (k : Int) < (F.length : Int) := by omega
      obtain ⟨l, hl⟩ : ∃ l, F[k]? = some l := ⟨F[k], List.getElem?_eq_getElem hlF⟩
      obtain ⟨u, hu⟩ : ∃ u, vs[k]? = some u := ⟨vs[k]'(by rw [H.out.len]; exact hlF), List.getElem?_eq_getElem _⟩
      obtain ⟨b, off, rfl, hbl, hcl⟩ := adrow_at H.out.row hu hlF
      have hrow := H.out.each k u l hu hl
      obtain ⟨ol, cl, rfl⟩ := Row.form hrow
      rw [← hS.bel.cell (p := ⟨b, off + k, none⟩) hbl] at hcl
      have hmk := make6_any l ol cl wr (hrow.below hS.bel)
      have hbs := hS.bel.size
      have hown := hS.own.row
      rw [hpl] at hown
      have hnext : (F.take (k + 1)).map M6.makeR = (F.take k).map M6.makeR ++ [M6.makeR l] := by
        rw [List.take_add_one, hl]; simp
      have HMK := Lib.hid hmk
      have HS := Lib.hid hS
      have HPS := Lib.hid (And.intro hps (And.intro hpl hnext))
      have HOWN := Lib.hid hown
      clear hmk hS hps hpl hnext hown hrow hl hu
      go_wp2_with (first
        | (go_at_call 33; refine HMK.out.mono ?_; rintro x w3 ⟨s3, e3, rfl, hkp, hb3⟩
           obtain ⟨⟨of, cf, rfl⟩, ⟨og, cg, rfl⟩⟩ := hkp.here.form
           have hlt3 := hb3.size)
        | (at_builtin; refine wpList_append_far _ rfl _ _ 27 rfl w.heap.size 41 ip (.agg #[.int .i64 0, .slice none 0 0, .slice none 0 0]) 3 56 Tryz.underlying27 hp0 hp1 hp2 hp3 rfl (by decide) (.slice o k c) k (ps.flatMap thr) rfl (owns_below HOWN.out (bel_new hb3 _)) _ 1 [.int .i64 (M6.makeR l).kind, .slice of (M6.makeR l).set.length cf, .slice og (M6.makeR l).parts.length cg] rfl (afrow_new (size := 3) rfl (by simp)) rfl (by simp [Value.oneCell']) (by unfold maxLen; omega) (by omega) (by simp; omega) ?_; intro v8 w8 hown8 hg8 hf8 hb8))
      obtain ⟨o8, c8, rfl⟩ := Row.form (Row.owned hown8)
      have hX1 : Below wr.heap.size wr (w3.alloc (.cells #[.int .i64 (M6.makeR l).kind, .slice of (M6.makeR l).set.length cf, .slice og (M6.makeR l).parts.length cg] 41)) := bel_new hb3 _
      have hpush := (HS.out.own.moved hX1).push (w' := w8) (v' := .slice o8 (k + 1) c8) (p := (M6.makeR l, .slice of (M6.makeR l).set.length cf, .slice og (M6.makeR l).parts.length cg)) (by rw [HPS.out.2.1]; exact hown8) hg8 hf8
        ((hkp.to (.of (bel_new (Below.refl _ _) _))).sub fun j _ hj => ⟨by omega, fun e => by have := (HS.out.own.row.lt j e).2; omega⟩)
      have hbel8 : Below w.heap.size w w8 := by
        have h1 := HS.out.bel.trans (hX1.mono hbs)
        exact h1.grown hg8 (by have := hX1.size; omega) (fun j hj => (HS.out.own.row.lt j hj).1)
      have HP := Lib.hid (And.intro hpush hbel8)
      clear hpush hbel8 hX1 hown8 hg8 hf8 hb8 hkp hb3
      go_roundg g1
      case measure => omega
      case rel => exact ⟨k + 1, o8, c8, _, by omega, by omega, by simp, rfl, ⟨HP.out.1, HP.out.2⟩, by rw [HPS.out.2.2, ← HPS.out.1]; simp⟩
    · have HS := Lib.hid hS
      have HPS := Lib.hid hps
      by_cases hk0 : k = 0
      · subst hk0
        have hF0 : F.length = 0 := by omega
        have hd1 : decide (((0 : Nat) : Int) < (F.length : Int)) = false := by rw [hF0]; decide
        have hd3 : ((0 : Nat) : Int) = 0 := rfl
        clear hS hps
        go_wp2_with (go_at_call 34; refine (one_exact _ _).mono ?_; rintro e w2 ⟨rfl, rfl⟩)
        obtain ⟨W, hW⟩ : ∃ W, W = ((wr.alloc (.cells #[.int .i64 2, .slice (some ⟨wr.heap.size + 1, 0, none⟩) 1 1, .slice none 0 0] 41)).alloc (.cells #[.int .i32 97, .int .i32 97] 54)).alloc (.cells #[.int .i64 2, .slice (some ⟨wr.heap.size + 1, 0, none⟩) 1 1, .slice none 0 0] 41) := ⟨_, rfl⟩
        have hb1 : Below wr.heap.size wr W := by rw [hW]; exact bel_new (bel_new (bel_new (Below.refl _ _) _) _) _
        have q1 : W.heap[wr.heap.size + 1]? = some (.cells #[.int .i32 97, .int .i32 97] 54 (0, 0)) := by
          rw [hW, Below.heap_alloc _ _ _ (by simp)]
          have := heap_alloc_new (wr.alloc (.cells #[.int .i64 2, .slice (some ⟨wr.heap.size + 1, 0, none⟩) 1 1, .slice none 0 0] 41)) (.cells #[.int .i32 97, .int .i32 97] 54)
          rwa [World.size_alloc] at this
        have q2 : W.heap[wr.heap.size + 1 + 1]? = some (.cells #[.int .i64 2, .slice (some ⟨wr.heap.size + 1, 0, none⟩) 1 1, .slice none 0 0] 41 (0, 0)) := by
          rw [hW]
          have := heap_alloc_new ((wr.alloc (.cells #[.int .i64 2, .slice (some ⟨wr.heap.size + 1, 0, none⟩) 1 1, .slice none 0 0] 41)).alloc (.cells #[.int .i32 97, .int .i32 97] 54)) (.cells #[.int .i64 2, .slice (some ⟨wr.heap.size + 1, 0, none⟩) 1 1, .slice none 0 0] 41)
          rwa [World.size_alloc, World.size_alloc] at this
        have hre := reis_list (ps := [(M6.oneR 97, .slice (some ⟨wr.heap.size + 1, 0, none⟩) 1 1, .slice none 0 0)]) (afrow_block (n := 1) (size := 3) q2 rfl (by decide)) (fun p hp => by
          rw [List.mem_singleton] at hp
          subst hp
          exact six_leaf q1)
        rw [← hW]
        have HRE := Lib.hid hre
        have HB := Lib.hid hb1
        clear hre q1 q2 hb1 hW
        go_ret
        refine ⟨_, rfl, ?_, HS.out.bel.trans (HB.out.mono HS.out.bel.size)⟩
        unfold Nf.resL
        rw [if_pos hF0]
        exact HRE.out
      · have hk1 : ((k : Int) == 0) = false := by simp; omega
        have hre : ReIs wr (.mk 0 [] (Nf.resL F)) (.slice none 0 0) (.slice o k c) := by
          have h1 := reis_list (ps := ps) (by exact hS.own.row) (fun p hp => (hS.own.keep p hp).here)
          have e : Nf.resL F = ps.map (·.1) := by
            unfold Nf.resL
            rw [if_neg (by omega), hps]
            by_cases h4 : k < 4
            · have : k = F.length := by omega
              rw [this, List.take_of_length_le (Nat.le_refl _), List.take_of_length_le (by omega)]
            · have : k = 4 := by omega
              rw [this]
          rw [e]; exact h1
        have HRE := Lib.hid hre
        clear hS hps hre
        by_cases h4 : (k : Int) < (F.length : Int)
        · have hd2 : decide ((k : Int) < 4) = false := by simp; omega
          have hd3 : decide ((k : Int) < (F.length : Int)) = true := by simp; omega
          go_wp2_with fail
          go_ret
          exact ⟨_, rfl, HRE.out, HS.out.bel⟩
        · have hd3 : decide ((k : Int) < (F.length : Int)) = false := by simp; omega
          go_wp2_with fail
          go_ret
          exact ⟨_, rfl, HRE.out, HS.out.bel⟩
end Go.Proofs.YtmgfpcblbbpahaaGreat

namespace Go.Proofs.YtmgfpcblbbpahaaGreat
open Go.RowKit Ru

theorem cells_any {w : World} {pb : Nat} {S : List (List Pc)} {F E : List (List Int)} {C : List Pc} {so fo eo co : Option Addr} {sc fc ec cc : Nat} {ss fs es : List Value} (h : NIs w pb S F E C so fo eo co sc fc ec cc ss fs es) (hC : C.length ≤ 1000000) :
    Calls Tryz.prog 20 #[.pointer (some ⟨pb, 0, none⟩)] w fun e w' => ∃ u, e = .returned u ∧ w'.ownsRow w.heap.size 54 2 u C.length (flatK .i32 C) ∧ Below w.heap.size w w' := by
  have hcl := cloneR_any C _ w h.cells hC
  have HC := Lib.hid hcl
  have hc3 := h.c3
  clear h hcl
  go_enter Tryz.func20, Tryz.ntmps20
  go_wp2_with (go_at_call 47; refine HC.out.mono ?_; rintro e w' ⟨u, rfl, ho, hb⟩)
  go_ret
  exact ⟨u, rfl, ho, hb⟩
end Go.Proofs.YtmgfpcblbbpahaaGreat

namespace Go.Proofs.YtmgfpcblbbpahaaGreat
open Go.RowKit Ru

def Nf.tL : List RE := [M6.oneR 97]
theorem nt_s : Nf.mS Nf.tL = [[], [(97, 97)]] := by decide +kernel
theorem nt_e : Nf.mE Nf.tL = [[], [0]] := by decide +kernel
theorem nt_f : Nf.mF Nf.tL = [[1], []] := by decide +kernel
theorem nt_c : cutsF (Nf.mS Nf.tL) = [(97, 97)] := by decide +kernel
theorem nt_n0 : nextL [[], [(97, 97)]] [[1], []] [0] 97 = [1] := by decide +kernel
theorem nt_n1 : nextL [[], [(97, 97)]] [[1], []] [1] 97 = [] := by decide +kernel
theorem nt_r1 : Nf.gat [[], [0]] [1] = [0] := by decide +kernel
theorem nt_r2 : Nf.gat [[], [0]] [0, 7] = [] := by decide +kernel
theorem row_lit {w : World} {cs : List Value} {n : Nat} (hn : cs.length = n) (hm : n ≤ 1000) : Row (w.alloc (.cells cs.toArray 3)) (.slice (some ⟨w.heap.size, 0, none⟩) n n) n cs := by
  have := Row.owned (afrow_block (w := w.alloc (.cells cs.toArray 3)) (g := w.heap.size) (n := n) (size := 1) (heap_alloc_new w _) (by simpa using hn) (by unfold maxLen; omega))
  simpa using this
theorem reis_nil (w : World) : ReIs w (.mk 0 [] []) (.slice none 0 0) (.slice none 0 0) := .mk 0 [] [] _ _ [] (Row.nil w) (Row.nil w) rfl (fun i e p h => by simp at h) (fun i e p h => by simp at h)
theorem fit_list {l : List RE} (h : ∀ e ∈ l, e.Fit) (hl : l.length ≤ 1000) : (RE.mk 0 [] l).Fit := .mk 0 [] l (fun p hp => by simp at hp) (by simp) hl (fun i e he => h e (List.mem_of_getElem? he))
theorem tL_fit : (RE.mk 0 [] Nf.tL).Fit := fit_list (fun e he => by unfold Nf.tL at he; rw [List.mem_singleton] at he; subst he; exact (M6.g6_one (by decide)).fit) (by decide)
theorem tL_takes : Nf.takes (RE.mk 0 [] Nf.tL).parts = true := by decide +kernel
theorem one_list (wr W : World) (hW : W = ((wr.alloc (.cells #[.int .i64 2, .slice (some ⟨wr.heap.size + 1, 0, none⟩) 1 1, .slice none 0 0] 41)).alloc (.cells #[.int .i32 97, .int .i32 97] 54)).alloc (.cells #[.int .i64 2, .slice (some ⟨wr.heap.size + 1, 0, none⟩) 1 1, .slice none 0 0] 41)) :
    ReIs W (.mk 0 [] Nf.tL) (.slice none 0 0) (.slice (some ⟨wr.heap.size + 1 + 1, 0, none⟩) 1 1) ∧ Below wr.heap.size wr W := by
  have hb1 : Below wr.heap.size wr W := by rw [hW]; exact bel_new (bel_new (bel_new (Below.refl _ _) _) _) _
  have q1 : W.heap[wr.heap.size + 1]? = some (.cells #[.int .i32 97, .int .i32 97] 54 (0, 0)) := by
    rw [hW, Below.heap_alloc _ _ _ (by simp)]
    have := heap_alloc_new (wr.alloc (.cells #[.int .i64 2, .slice (some ⟨wr.heap.size + 1, 0, none⟩) 1 1, .slice none 0 0] 41)) (.cells #[.int .i32 97, .int .i32 97] 54)
    rwa [World.size_alloc] at this
  have q2 : W.heap[wr.heap.size + 1 + 1]? = some (.cells #[.int .i64 2, .slice (some ⟨wr.heap.size + 1, 0, none⟩) 1 1, .slice none 0 0] 41 (0, 0)) := by
    rw [hW]
    have := heap_alloc_new ((wr.alloc (.cells #[.int .i64 2, .slice (some ⟨wr.heap.size + 1, 0, none⟩) 1 1, .slice none 0 0] 41)).alloc (.cells #[.int .i32 97, .int .i32 97] 54)) (.cells #[.int .i64 2, .slice (some ⟨wr.heap.size + 1, 0, none⟩) 1 1, .slice none 0 0] 41)
    rwa [World.size_alloc, World.size_alloc] at this
  exact ⟨reis_list (ps := [(M6.oneR 97, .slice (some ⟨wr.heap.size + 1, 0, none⟩) 1 1, .slice none 0 0)]) (afrow_block (n := 1) (size := 3) q2 rfl (by decide)) (fun p hp => by
    rw [List.mem_singleton] at hp
    subst hp
    exact six_leaf q1), hb1⟩
set_option maxRecDepth 100000 in
set_option maxHeartbeats 8000000 in
theorem told7_any (w : World) : Calls Tryz.prog 10 #[] w fun e w' => e = .returned (.bool true) ∧ Below w.heap.size w w' := by
  go_enter Tryz.func10, Tryz.ntmps10
  go_wp2_with (go_at_call 34; refine (one_exact _ _).mono ?_; rintro e w2 ⟨rfl, rfl⟩)
  obtain ⟨W, hW⟩ : ∃ W, W = ((w.alloc (.cells #[.int .i64 2, .slice (some ⟨w.heap.size + 1, 0, none⟩) 1 1, .slice none 0 0] 41)).alloc (.cells #[.int .i32 97, .int .i32 97] 54)).alloc (.cells #[.int .i64 2, .slice (some ⟨w.heap.size + 1, 0, none⟩) 1 1, .slice none 0 0] 41) := ⟨_, rfl⟩
  obtain ⟨hre, hbW⟩ := one_list w W hW
  rw [← hW]
  clear hW
  refine (build_any _ _ _ W hre tL_fit tL_takes).mono ?_
  rintro x w2 ⟨pb, so, fo, eo, co, sc, fc, ec, cc, ss, fs, es, rfl, hn, hb2, hpb⟩
  rw [show (RE.mk 0 [] Nf.tL).parts = Nf.tL from rfl, nt_c, nt_s, nt_f, nt_e] at hn
  have HB2 := Lib.hid (bel_then hbW hb2)
  clear hre hbW hb2 hpb
  have HN := Lib.hid hn
  clear hn
  go_wp2_with fail
  refine (build_bad _ _ _ w2 (reis_nil w2) (fit_list (l := []) (fun e he => by simp at he) (by simp)) (by decide +kernel)).mono ?_
  rintro x w3 ⟨rfl, hb3⟩
  have HB3 := Lib.hid hb3
  clear hb3
  go_wp2_with fail
  have hx0 := next_any (HN.out.moved (bel_then HB3.out (bel_new (Below.refl _ _) (.cells #[.int .i64 0] 3)))) [0] (some ⟨w3.heap.size, 0, none⟩) 1 (row_lit (w := w3) (cs := [.int .i64 0]) (n := 1) rfl (by omega)) (by decide) 97
  rw [nt_n0] at hx0
  refine hx0.mono ?_
  rintro x w4 ⟨u4, rfl, hu4, hb4⟩
  have hb4' : Below w3.heap.size w3 w4 := bel_then (bel_new (Below.refl _ _) _) hb4
  have HB4 := Lib.hid hb4'
  obtain ⟨o4, c4, rfl⟩ := nf_slice hu4
  have hr4 := Row.owned hu4
  clear hb4 hb4' hu4 hx0
  have HR4 := Lib.hid hr4
  obtain ⟨b4, f4, rfl, hl4, hc4⟩ := adrow_at (i := 0) hr4 (u := .int .i64 1) rfl (by decide)
  clear hr4
  rw [show [(1 : Int)].length = 1 from rfl]
  have hx5 := rules_any (HN.out.moved (bel_then HB3.out HB4.out)) [1] (some ⟨b4, f4, none⟩) c4 HR4.out (by decide)
  rw [nt_r1] at hx5
  have HX5 := Lib.hid hx5
  clear hx5
  go_wp2_with fail
  refine HX5.out.mono ?_
  rintro x w5 ⟨u5, rfl, hu5, hb5⟩
  have HB5 := Lib.hid hb5
  obtain ⟨o5, c5, rfl⟩ := nf_slice hu5
  have hr5 := Row.owned hu5
  clear hu5 hb5
  have HR5 := Lib.hid hr5
  obtain ⟨b5, f5, rfl, hl5, hc5⟩ := adrow_at (i := 0) hr5 (u := .int .i64 0) rfl (by decide)
  clear hr5
  rw [show [(0 : Int)].length = 1 from rfl]
  rw [← HB5.out.cell hl4] at hc4
  rw [Nat.add_zero] at hc4 hc5
  have hlen := len_any (HN.out.moved (bel_then HB3.out (bel_then HB4.out HB5.out)))
  have HL := Lib.hid hlen
  clear hlen
  go_wp2_with fail
  refine HL.out.mono ?_
  rintro x w6 ⟨rfl, rfl⟩
  rw [show (([[], [(97, 97)]] : List (List Pc)).length : Int) = 2 from rfl]
  have hx7 := next_any (HN.out.moved (bel_then HB3.out (bel_then HB4.out HB5.out))) [1] (some ⟨b4, f4, none⟩) c4 (HR4.out.below HB5.out) (by decide) 97
  rw [nt_n1] at hx7
  have HX7 := Lib.hid hx7
  clear hx7
  go_wp2_with fail
  refine HX7.out.mono ?_
  rintro x w7 ⟨u7, rfl, hu7, hb7⟩
  have HB7 := Lib.hid hb7
  obtain ⟨o7, c7, rfl⟩ := nf_slice hu7
  clear hu7 hb7
  rw [show ([] : List Int).length = 0 from rfl]
  have hx8 := cells_any (HN.out.moved (bel_then HB3.out (bel_then HB4.out (bel_then HB5.out HB7.out)))) (by decide)
  have HX8 := Lib.hid hx8
  clear hx8
  go_wp2_with fail
  refine HX8.out.mono ?_
  rintro x w8 ⟨u8, rfl, hu8, hb8⟩
  have HB8 := Lib.hid hb8
  obtain ⟨o8, c8, rfl⟩ := Row.form (Row.owned hu8)
  clear hu8 hb8
  rw [show ([(97, 97)] : List Pc).length = 1 from rfl]
  have hx9 := rules_any ((HN.out.moved (bel_then HB3.out (bel_then HB4.out (bel_then HB5.out (bel_then HB7.out HB8.out))))).moved (bel_new (Below.refl _ _) (.cells #[.int .i64 0, .int .i64 7] 3))) [0, 7] (some ⟨w8.heap.size, 0, none⟩) 2 (row_lit (w := w8) (cs := [.int .i64 0, .int .i64 7]) (n := 2) rfl (by omega)) (by decide)
  rw [nt_r2] at hx9
  have HX9 := Lib.hid hx9
  clear hx9
  go_wp2_with fail
  refine HX9.out.mono ?_
  rintro x w9 ⟨u9, rfl, hu9, hb9⟩
  have HB9 := Lib.hid (show Below w8.heap.size w8 w9 from bel_then (bel_new (Below.refl _ _) _) hb9)
  obtain ⟨o9, c9, rfl⟩ := nf_slice hu9
  clear hu9 hb9
  rw [show ([] : List Int).length = 0 from rfl]
  go_wp2_with fail
  refine (len_nil w9).mono ?_
  rintro x w10 ⟨rfl, rfl⟩
  go_wp2_with fail
  refine (next_nil _ 97 _).mono ?_
  rintro x w11 ⟨rfl, hb11⟩
  have HB11 := Lib.hid hb11
  clear hb11
  go_wp2_with fail
  go_ret
  exact ⟨rfl, bel_then HB2.out (bel_then HB3.out (bel_then HB4.out (bel_then HB5.out (bel_then HB7.out (bel_then HB8.out (bel_then HB9.out (bel_then (bel_new (Below.refl _ _) _) HB11.out)))))))⟩
end Go.Proofs.YtmgfpcblbbpahaaGreat

namespace Go.Proofs.YtmgfpcblbbpahaaGreat
open Go.RowKit Ru

namespace Nf
theorem resL_all (F : List (List Int)) : (∀ e ∈ resL F, M6.G6 e ∧ e.may = true ∧ e.size ≤ 29) ∧ 1 ≤ (resL F).length ∧ (resL F).length ≤ 4 := by
  unfold resL
  split
  · exact ⟨fun e he => by rw [List.mem_singleton] at he; subst he; exact ⟨M6.g6_one (by decide), by decide +kernel, by decide +kernel⟩, by simp, by simp⟩
  · refine ⟨fun e he => ?_, by simp; omega, by simp; omega⟩
    obtain ⟨l, _, rfl⟩ := List.mem_map.1 he
    exact M6.makeR_ok l
theorem resL_fit (F : List (List Int)) : (RE.mk 0 [] (resL F)).Fit := fit_list (fun e he => ((resL_all F).1 e he).1.fit) (by have := (resL_all F).2.2; omega)
theorem resL_takes (F : List (List Int)) : takes (RE.mk 0 [] (resL F)).parts = true := by
  have h := resL_all F
  show takes (resL F) = true
  unfold takes
  simp only [Bool.and_eq_true, decide_eq_true_eq]
  exact ⟨⟨h.2.1, by omega⟩, List.all_eq_true.2 fun e he => (h.1 e he).2.1⟩
theorem mem_next (S : List (List Pc)) (F : List (List Int)) (l : List Int) (r x : Int) : x ∈ nextL S F l r ↔ (∃ s, s ∈ l ∧ 0 ≤ s ∧ s < (F.length : Int) ∧ x ∈ F.getD s.toNat []) ∧ has (S.getD x.toNat []) r = true := by
  unfold nextL
  rw [List.mem_filter, mem_gat]
  simp
theorem next_asc (S : List (List Pc)) (F : List (List Int)) (l : List Int) (r : Int) : (nextL S F l r).Pairwise (· < ·) := (ord_lt _).filter _
theorem next_len (S : List (List Pc)) (F : List (List Int)) (hfit : ∀ r ∈ F, ∀ x ∈ r, 0 ≤ x ∧ x < (S.length : Int)) (l : List Int) (r : Int) : (nextL S F l r).length ≤ S.length := by
  refine asc_len (next_asc S F l r) S.length fun x hx => ?_
  obtain ⟨⟨s, _, _, _, h2⟩, _⟩ := (mem_next S F l r x).1 hx
  rw [List.getD_eq_getElem?_getD] at h2
  cases e : F[s.toNat]? with
  | none => rw [e] at h2; simp at h2
  | some q => rw [e] at h2; exact hfit q (List.mem_of_getElem? e) x h2
end Nf
end Go.Proofs.YtmgfpcblbbpahaaGreat
