/- gobolaw7.NfaSets: the walk. -/
import Derived.Test.YtmgfpcblbbpahaaGreatNfLaw0
import Derived.IntWalk
set_option linter.unusedVariables false
set_option linter.unusedSimpArgs false
namespace Go.Proofs.YtmgfpcblbbpahaaGreat
open Go.RowKit Ru

set_option maxRecDepth 100000 in
set_option maxHeartbeats 1000000 in
theorem nfaSets_walk (L : List (List Int)) (vs : List Value) (lv : Value) (a : List Int) (av : Value) (b : List Int) (bv : Value) (r : Int) (w : World) (hL : RowsI w lv vs L) (hz : ∀ l ∈ L, ∀ n ∈ l, (Lit.int .i64 n).wf = true)
    (ha : Row w av a.length (a.map (Value.int .i64))) (hza : ∀ n ∈ a, (Lit.int .i64 n).wf = true) (hb : Row w bv b.length (b.map (Value.int .i64))) (hzb : ∀ n ∈ b, (Lit.int .i64 n).wf = true) (hr : (Lit.int .i64 r).wf = true) :
    Calls Tryz.prog 3 #[lv, av, bv, .int .i64 r] w fun e w' => e = .returned (.bool true) ∧ Below w.heap.size w w' := by
  obtain ⟨ii, hi0, hi1, hi2, hi3⟩ := infoInt1
  have hres := res_any L vs lv w hL
  obtain ⟨oa, ca, rfl⟩ := Row.form ha
  obtain ⟨ob, cb, rfl⟩ := Row.form hb
  have HRES := Lib.hid hres
  have HA := Lib.hid ha
  have HBB := Lib.hid hb
  clear hres hL hz ha hb hza hzb hr
  go_enter Tryz.func3, Tryz.ntmps3
  go_wp2_with fail
  refine HRES.out.mono ?_
  rintro x w1 ⟨u1, rfl, hre, hb1⟩
  have hbu := build_any _ _ _ w1 hre (Nf.resL_fit L) (Nf.resL_takes L)
  have HB1 := Lib.hid hb1
  have HBU := Lib.hid hbu
  clear hre hb1 hbu
  go_wp2_with fail
  refine HBU.out.mono ?_
  rintro x w2 ⟨pb, so, fo, eo, co, sc, fc, ec, cc, ss, fs, es, rfl, hn, hb2, hpb⟩
  rw [show (RE.mk 0 [] (Nf.resL L)).parts = Nf.resL L from rfl] at hn
  have HN := Lib.hid hn
  have HB2 := Lib.hid (bel_then HB1.out hb2)
  clear hn hb2 hpb HBU HRES
  obtain ⟨S, hS⟩ : ∃ S, S = Nf.mS (Nf.resL L) := ⟨_, rfl⟩
  obtain ⟨F, hF⟩ : ∃ F, F = Nf.mF (Nf.resL L) := ⟨_, rfl⟩
  rw [← hS, ← hF] at HN
  clear hS hF
  have htold := fun X => told7_any X
  have HT := Lib.hid htold
  clear htold
  by_cases h20 : (20 : Int) < (a.length : Int)
  · go_wp2_with (go_at_call 10; refine (HT.out _).mono ?_; rintro x w3 ⟨rfl, hb3⟩)
    go_ret
    exact ⟨rfl, bel_then HB2.out hb3⟩
  · by_cases h21 : (20 : Int) < (b.length : Int)
    · go_wp2_with (go_at_call 10; refine (HT.out _).mono ?_; rintro x w3 ⟨rfl, hb3⟩)
      go_ret
      exact ⟨rfl, bel_then HB2.out hb3⟩
    · obtain ⟨v, hv, ev⟩ := afu64_mod' r 4 (by omega) (by omega)
      have ev1 : (IntKind.u64.wrap r).tmod 4 = (v : Int) := ev
      have ev2 : IntKind.i64.wrap (v : Int) = (v : Int) := IntWalk.i64_in _ (by omega)
      clear ev
      have hx3 := next_any HN.out a oa ca (HA.out.below HB2.out) (by omega) (97 + (v : Int))
      have HX3 := Lib.hid hx3
      clear hx3
      go_wp2_with fail
      refine HX3.out.mono ?_
      rintro x w3 ⟨u3, rfl, hu3, hb3⟩
      have HB3 := Lib.hid hb3
      obtain ⟨X, hX⟩ : ∃ X, X = nextL S F a (97 + (v : Int)) := ⟨_, rfl⟩
      rw [← hX] at hu3
      have HXE := Lib.hid hX
      obtain ⟨o3, c3, rfl⟩ := nf_slice hu3
      have HR3 := Lib.hid (Row.owned hu3)
      clear hu3 hb3 hX HX3
      have hx4 := next_any (HN.out.moved HB3.out) b ob cb ((HBB.out.below HB2.out).below HB3.out) (by omega) (97 + (v : Int))
      have HX4 := Lib.hid hx4
      clear hx4
      go_wp2_with fail
      refine HX4.out.mono ?_
      rintro x w4 ⟨u4, rfl, hu4, hb4⟩
      have HB4 := Lib.hid hb4
      obtain ⟨Y, hY⟩ : ∃ Y, Y = nextL S F b (97 + (v : Int)) := ⟨_, rfl⟩
      rw [← hY] at hu4
      have HYE := Lib.hid hY
      obtain ⟨o4, c4, rfl⟩ := nf_slice hu4
      have HR4 := Lib.hid (Row.owned hu4)
      clear hu4 hb4 hY HX4
      have hown0 : (w4.alloc (.cells #[] 3)).ownsRow w4.heap.size 3 1 (.slice (some ⟨w4.heap.size, 0, none⟩) 0 0) 0 [] :=
        ⟨rfl, .inr ⟨w4.heap.size, _, _, rfl, Nat.le_refl _, heap_alloc_new w4 _, Nat.le_refl _, by simp [maxLen], rfl, rfl⟩⟩
      have hbn : Below w4.heap.size w4 (w4.alloc (.cells #[] 3)) := bel_new (Below.refl _ _) _
      have hra := ((HA.out.below HB2.out).below (bel_then HB3.out HB4.out)).below hbn
      have hrb := ((HBB.out.below HB2.out).below (bel_then HB3.out HB4.out)).below hbn
      go_wp2_with (first
        | (at_builtin; refine wpList_append_far _ rfl _ _ 23 rfl w4.heap.size 3 ii (.int .i64 0) 1 8 Tryz.underlying23 hi0 hi1 hi2 hi3 rfl (by decide) (.slice (some ⟨w4.heap.size, 0, none⟩) 0 0) 0 [] rfl hown0 _ a.length (a.map (Value.int .i64)) rfl hra (by simp) (by simp [Value.oneCell']) (by unfold maxLen; omega) (by omega) (by simp) ?_; intro v5 w5 hown5 hg5 hf5 hb5
           rw [List.nil_append, Nat.zero_add] at hown5
           obtain ⟨o5, c5, rfl⟩ := nf_slice hown5
           have hb45 : Below w4.heap.size w4 w5 := bel_grown hbn hg5 (fun j hj => (hown0.lt j hj).1)
           have hrb5 := ((HBB.out.below HB2.out).below (bel_then HB3.out HB4.out)).below hb45)
        | (at_builtin; refine wpList_append_far _ rfl _ _ 23 rfl w4.heap.size 3 ii (.int .i64 0) 1 8 Tryz.underlying23 hi0 hi1 hi2 hi3 rfl (by decide) (.slice o5 a.length c5) a.length (a.map (Value.int .i64)) rfl hown5 _ b.length (b.map (Value.int .i64)) rfl hrb5 (by simp) (by simp [Value.oneCell']) (by unfold maxLen; omega) (by omega) hb45.size ?_; intro v6 w6 hown6 hg6 hf6 hb6
           have hb46 : Below w4.heap.size w4 w6 := bel_grown hb45 hg6 (fun j hj => (hown5.lt j hj).1)
           rw [← List.map_append, ← List.length_append] at hown6
           obtain ⟨o6, c6, rfl⟩ := nf_slice hown6
           have hz := next_any (HN.out.moved (bel_then HB3.out (bel_then HB4.out hb46))) (a ++ b) o6 c6 (Row.owned hown6) (by rw [List.length_append]; omega) (97 + (v : Int))
           have HZ := Lib.hid hz
           have HB6 := Lib.hid hb46
           clear hz hb46 hown6 hg6 hf6 hb6 hown5 hg5 hf5 hb5 hrb5 hb45))
      have HZ := Lib.hid (show _ from by have h := HZ.out; rw [List.length_append] at h; exact h)
      refine HZ.out.mono ?_
      rintro x w7 ⟨u7, rfl, hu7, hb7⟩
      obtain ⟨Z, hZ⟩ : ∃ Z, Z = nextL S F (a ++ b) (97 + (v : Int)) := ⟨_, rfl⟩
      rw [← hZ] at hu7
      have hZE : Z = Nf.uK X Y S.length := by rw [hZ, Nf.next_two S F HN.out.fit, HXE.out, HYE.out]
      obtain ⟨o7, c7, rfl⟩ := nf_slice hu7
      have HR7 := Lib.hid (Row.owned hu7)
      have HN7 := Lib.hid (HN.out.moved (bel_then HB3.out (bel_then HB4.out (bel_then HB6.out hb7))))
      have HR3' := Lib.hid (HR3.out.below (bel_then HB4.out (bel_then HB6.out hb7)))
      have HR4' := Lib.hid (HR4.out.below (bel_then HB6.out hb7))
      have HBW := Lib.hid (bel_then HB2.out (bel_then HB3.out (bel_then HB4.out (bel_then HB6.out hb7))))
      have HZE := Lib.hid hZE
      have hSf := HN.out.few
      have hX0 : X.length ≤ 1000 := by rw [HXE.out]; exact Nat.le_trans (Nf.next_len S F HN.out.fit a _) hSf
      have hY0 : Y.length ≤ 1000 := by rw [HYE.out]; exact Nat.le_trans (Nf.next_len S F HN.out.fit b _) hSf
      clear hu7 hb7 hZ hZE HZ HN HR3 HR4 HB2 HB3 HB4 HB6 HA HBB hra hrb hbn hown0 hv ev1 ev2 HXE HYE h20 h21
      go_wp2_with fail
      go_loopg [15, 16] S.length (fun g s15 s16 wx => ∃ k : Nat, k + g = S.length ∧ s16 = .int .i64 (k : Int) ∧ wx.ownsRow w7.heap.size 3 1 s15 (Nf.uK X Y k).length (ints1 (Nf.uK X Y k)) ∧ Below w7.heap.size w7 wx)
      case atStart => exact ⟨0, by omega, rfl, World.ownsRow_nil _ _ _ _, Below.refl _ _⟩
      case round =>
        obtain ⟨k, hk, rfl, hown, hbx⟩ := hrel
        obtain ⟨o, c, rfl⟩ := nf_slice hown
        have HOW := Lib.hid hown
        have HBX := Lib.hid hbx
        have hlen := len_any (HN7.out.moved hbx)
        have HL := Lib.hid hlen
        clear hlen hown hbx
        by_cases hlt : k < S.length
        · obtain ⟨g1, hg1⟩ : ∃ g1, g1 + 1 = gk := ⟨gk - 1, by omega⟩
          have hd : (k : Int) < (S.length : Int) := by omega
          go_wp2_with fail
          refine HL.out.mono ?_
          rintro x w8 ⟨rfl, rfl⟩
          go_wp2_with fail
          go_loopg [17, 18] X.length (fun g s17 s18 wy => ∃ j : Nat, j + g = X.length ∧ s18 = .int .i64 (j : Int) ∧ s17 = .bool (decide ((k : Int) ∈ X.take j)) ∧ wy = w8)
          case atStart => exact ⟨0, by omega, rfl, by simp, rfl⟩
          case round =>
            obtain ⟨j, hj, rfl, rfl, rfl⟩ := hrel
            by_cases hjl : j < X.length
            · obtain ⟨g2, hg2⟩ : ∃ g2, g2 + 1 = gk := ⟨gk - 1, by omega⟩
              have hdj : (j : Int) < (X.length : Int) := by omega
              have hmt := Nf.mem_take_next hjl (k : Int)
              obtain ⟨bb, off, rfl, hbl, hcl⟩ := adrow_at HR3'.out (getElem?_ints hjl) hjl
              rw [← HBX.out.cell (p := ⟨bb, off + j, none⟩) hbl] at hcl
              obtain ⟨xj, hxj⟩ : ∃ xj, xj = X.getD j 0 := ⟨_, rfl⟩
              rw [← hxj] at hmt hcl
              clear hxj
              by_cases hm : (k : Int) ∈ X.take j
              · have hd1 : decide ((k : Int) ∈ X.take j) = true := decide_eq_true hm
                rw [hd1]
                have hd2 := Lib.hid (show decide ((k : Int) ∈ X.take (j + 1)) = true from decide_eq_true (hmt.2 (.inl hm)))
                clear hd1 hmt hm
                go_wp2_with fail
                go_roundg g2
                case measure => omega
                case rel => exact ⟨j + 1, by omega, by simp, by rw [hd2.out], rfl⟩
              · have hd1 : decide ((k : Int) ∈ X.take j) = false := decide_eq_false hm
                rw [hd1]
                have hd2 := Lib.hid (show decide ((k : Int) ∈ X.take (j + 1)) = (xj == (k : Int)) from by
                  by_cases hx : xj = (k : Int)
                  · rw [decide_eq_true (hmt.2 (.inr hx)), hx]; simp
                  · rw [decide_eq_false (fun h => (hmt.1 h).elim hm hx)]; simp [hx])
                clear hd1 hmt hm
                go_wp2_with fail
                go_roundg g2
                case measure => omega
                case rel => exact ⟨j + 1, by omega, by simp, by rw [hd2.out], rfl⟩
            · obtain rfl : j = X.length := by omega
              rw [List.take_length]
              clear hj
              go_wp2_with fail
              go_loopg [17, 19] Y.length (fun g s17 s19 wy => ∃ j : Nat, j + g = Y.length ∧ s19 = .int .i64 (j : Int) ∧ s17 = .bool (decide ((k : Int) ∈ X ∨ (k : Int) ∈ Y.take j)) ∧ wy = wr)
              case atStart => exact ⟨0, by omega, rfl, by simp, rfl⟩
              case round =>
                obtain ⟨j, hj, rfl, rfl, rfl⟩ := hrel
                by_cases hjl : j < Y.length
                · obtain ⟨g2, hg2⟩ : ∃ g2, g2 + 1 = gk := ⟨gk - 1, by omega⟩
                  have hdj : (j : Int) < (Y.length : Int) := by omega
                  have hmt := Nf.mem_take_next hjl (k : Int)
                  obtain ⟨bb, off, rfl, hbl, hcl⟩ := adrow_at HR4'.out (getElem?_ints hjl) hjl
                  rw [← HBX.out.cell (p := ⟨bb, off + j, none⟩) hbl] at hcl
                  obtain ⟨xj, hxj⟩ : ∃ xj, xj = Y.getD j 0 := ⟨_, rfl⟩
                  rw [← hxj] at hmt hcl
                  clear hxj
                  by_cases hm : (k : Int) ∈ X ∨ (k : Int) ∈ Y.take j
                  · have hd1 : decide ((k : Int) ∈ X ∨ (k : Int) ∈ Y.take j) = true := decide_eq_true hm
                    rw [hd1]
                    have hd2 := Lib.hid (show decide ((k : Int) ∈ X ∨ (k : Int) ∈ Y.take (j + 1)) = true from decide_eq_true (hm.imp id fun h => hmt.2 (.inl h)))
                    clear hd1 hmt hm
                    go_wp2_with fail
                    go_roundg g2
                    case measure => omega
                    case rel => exact ⟨j + 1, by omega, by simp, by rw [hd2.out], rfl⟩
                  · have hd1 : decide ((k : Int) ∈ X ∨ (k : Int) ∈ Y.take j) = false := decide_eq_false hm
                    rw [hd1]
                    have hd2 := Lib.hid (show decide ((k : Int) ∈ X ∨ (k : Int) ∈ Y.take (j + 1)) = (xj == (k : Int)) from by
                      by_cases hx : xj = (k : Int)
                      · rw [decide_eq_true (.inr (hmt.2 (.inr hx))), hx]; simp
                      · rw [decide_eq_false (fun h => h.elim (fun h => hm (.inl h)) fun h => (hmt.1 h).elim (fun h => hm (.inr h)) hx)]; simp [hx])
                    clear hd1 hmt hm
                    go_wp2_with fail
                    go_roundg g2
                    case measure => omega
                    case rel => exact ⟨j + 1, by omega, by simp, by rw [hd2.out], rfl⟩
                · obtain rfl : j = Y.length := by omega
                  rw [List.take_length]
                  clear hj
                  have hun := Nf.uK_next X Y k
                  have hul := Nf.uK_len X Y k
                  by_cases hm : (k : Int) ∈ X ∨ (k : Int) ∈ Y
                  · have hd1 : decide ((k : Int) ∈ X ∨ (k : Int) ∈ Y) = true := decide_eq_true hm
                    rw [hd1]
                    rw [if_pos hm] at hun
                    have HUN := Lib.hid hun
                    clear hd1 hm hun
                    have hbs := HBX.out.size
                    go_wp2_with (at_builtin; refine wpList_append_far _ rfl _ _ 23 rfl w7.heap.size 3 ii (.int .i64 0) 1 8 Tryz.underlying23 hi0 hi1 hi2 hi3 rfl (by decide) (.slice o (Nf.uK X Y k).length c) (Nf.uK X Y k).length (ints1 (Nf.uK X Y k)) rfl (HOW.out.alloc _) _ 1 [.int .i64 (k : Int)] rfl (afrow_new rfl (by simp)) rfl (by simp [Value.oneCell']) (by unfold maxLen; omega) (by omega) (by simp; omega) ?_; intro v9 w9 hown9 hg9 hf9 hb9)
                    have hn9 : w9.ownsRow w7.heap.size 3 1 v9 (Nf.uK X Y (k + 1)).length (ints1 (Nf.uK X Y (k + 1))) := by rw [HUN.out, List.length_append, ints1_app]; exact hown9
                    have hb79 : Below w7.heap.size w7 w9 := bel_grown (HBX.out.alloc (by omega) _) hg9 (fun j hj => (HOW.out.lt j hj).1)
                    go_roundg g1
                    case measure => omega
                    case rel => exact ⟨k + 1, by omega, by simp, hn9, hb79⟩
                  · have hd1 : decide ((k : Int) ∈ X ∨ (k : Int) ∈ Y) = false := decide_eq_false hm
                    rw [hd1]
                    rw [if_neg hm, List.append_nil] at hun
                    have HUN := Lib.hid hun
                    clear hd1 hm hun
                    go_wp2_with fail
                    go_roundg g1
                    case measure => omega
                    case rel => exact ⟨k + 1, by omega, by simp, by rw [HUN.out]; exact HOW.out, HBX.out⟩
        · obtain rfl : k = S.length := by omega
          have hul := Nf.uK_len X Y S.length
          go_wp2_with fail
          refine HL.out.mono ?_
          rintro x w8 ⟨rfl, rfl⟩
          go_wp2_with (first
            | (go_at_call 10; refine (HT.out _).mono ?_; rintro x w9 ⟨rfl, hb9⟩; have HB9 := Lib.hid hb9; clear hb9)
            | (go_at_call 13; refine (ints7_same (Nf.uK X Y S.length) _ _ _ (by have h := (HR7.out.below HBX.out).below HB9.out; rw [HZE.out] at h ⊢; exact h) ((Row.owned HOW.out).below HB9.out) (by omega)).mono ?_; rintro x w10 ⟨rfl, hb10⟩))
          go_ret
          exact ⟨rfl, bel_then HBW.out (bel_then HBX.out (bel_then HB9.out hb10))⟩
end Go.Proofs.YtmgfpcblbbpahaaGreat
