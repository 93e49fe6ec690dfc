import Derived.Test.YtfkmajjgkdjncaaGreatDoorGTok
set_option linter.unusedVariables false
set_option linter.unusedSimpArgs false
set_option maxHeartbeats 8000000
set_option maxRecDepth 100000
namespace Go.Proofs.YtfkmajjgkdjncaaGreatDoor
open Go.RowKit Ru
def orE (a b : Option Int) : Option Int := match a with | some c => some c | none => b
def nodeE (T : List TK) (k : Int) (ns es : List ByteArray) : Option Int := if k = 2 then namesE T 0 [] ns else if k = 3 then orE (namesE T 1 [] ns) (namesE T 2 [] es) else none
mutual
def patE (T : List TK) : PT → Option Int
 | .mk k ns es l => if (PT.mk k ns es l).shp = false then some 5 else orE (nodeE T k ns es) (patEL T l)
def patEL (T : List TK) : List PT → Option Int
 | [] => none
 | p :: l => orE (patE T p) (patEL T l)
end
theorem patE_eq (T : List TK) (p : PT) : patE T p = if p.shp = false then some 5 else orE (nodeE T p.kind p.names p.ends) (patEL T p.parts) := by cases p; rw [patE]; rfl
theorem patEL_nil (T : List TK) : patEL T [] = none := by rw [patEL]
theorem patEL_cons (T : List TK) (p : PT) (l : List PT) : patEL T (p :: l) = orE (patE T p) (patEL T l) := by rw [patEL]
structure GEnv (w0 : World) (T : List TK) (tv rv : Value) (a : Int) (q : Nat) : Prop where
 hT : TksAre w0 tv T
 hTl : T.length ≤ 1000
 hrv : ∃ o n c, rv = .slice o n c
 hq : w0.heap[q]? = some (.cells #[.int .i64 a] 3 (0, 0))
theorem GEnv.moved {w0 w : World} {T : List TK} {tv rv : Value} {a : Int} {q : Nat} (h : GEnv w0 T tv rv a q) (hb : Below w0.heap.size w0 w) : GEnv w T tv rv a q := ⟨h.hT.moved hb, h.hTl, h.hrv, bel_get hb h.hq⟩
theorem gnames_env {w : World} {T : List TK} {tv rv : Value} {a : Int} {q : Nat} (h : GEnv w T tv rv a q) (l : List ByteArray) (nv : Value) (kind : Int) (hn : Row w nv l.length (strs l)) (hl : l.length ≤ 1000) :
 Calls Tryz.prog 101 #[chkV tv rv q, nv, .int .i64 kind] w (GPost (namesE T kind [] l) a w) := gnames_any T l tv rv nv kind a q w h.hT h.hTl h.hrv hn hl h.hq
def GPatIh (w0 : World) (T : List TK) (tv rv : Value) (a : Int) (q : Nat) (N : Nat) : Prop := ∀ (p : PT) (nv ev lv : Value) (w : World), p.size ≤ N → p.Fit → PtIs w p nv ev lv → Below w0.heap.size w0 w →
 Calls Tryz.prog 103 #[chkV tv rv q, .agg #[.int .i64 p.kind, nv, ev, lv]] w (GPost (patE T p) a w)
theorem gpat_all (w0 : World) (T : List TK) (tv rv : Value) (a : Int) (q : Nat) (E : GEnv w0 T tv rv a q) : ∀ N, GPatIh w0 T tv rv a q N := by
 intro N
 induction N with
 | zero => intro p nv ev lv w hs; have := p.size_pos; omega
 | succ N ih =>
  intro p nv ev lv w hs hf hr hb0
  obtain ⟨⟨o1, q1, rfl⟩, ⟨o3, q3, rfl⟩, -⟩ := hr.form
  obtain ⟨o2, q2, kf, no, nn, nc, eo, en, ec, lo, ln, lc, rfl, hall⟩ := hr.row4
  have hm1 := hf.lens
  have hE := E.moved hb0
  obtain ⟨o7, c7, nm7, kd7, cl7, rk7, so7, sn7, sc7, lo7, ln7, lc7, rfl, -⟩ := hE.hT.all
  obtain ⟨o9, n9, c9, rfl⟩ := hE.hrv
  obtain ⟨P, hP⟩ : ∃ P, P = patE T p := ⟨_, rfl⟩
  obtain ⟨k, hk⟩ : ∃ k, k = p.kind := ⟨_, rfl⟩
  obtain ⟨ns, hns⟩ : ∃ k, k = p.names := ⟨_, rfl⟩
  obtain ⟨es, hes⟩ : ∃ k, k = p.ends := ⟨_, rfl⟩
  obtain ⟨ps, hps⟩ : ∃ k, k = p.parts := ⟨_, rfl⟩
  obtain ⟨b1, hb1⟩ : ∃ k, k = p.shp := ⟨_, rfl⟩
  obtain ⟨r1, hr1⟩ : ∃ k, k = namesE T 0 [] ns := ⟨_, rfl⟩
  obtain ⟨r2, hr2⟩ : ∃ k, k = namesE T 1 [] ns := ⟨_, rfl⟩
  obtain ⟨r3, hr3⟩ : ∃ k, k = namesE T 2 [] es := ⟨_, rfl⟩
  have hPe : P = if b1 = false then some 5 else orE (if k = 2 then r1 else if k = 3 then orE r2 r3 else none) (patEL T ps) := by
   rw [hP, patE_eq, hb1, hk, hps, hr1, hr2, hr3, hns, hes]; rfl
  have hshp := fun w' (hb : Below w.heap.size w w') => gramShaped_any p _ _ _ w' (hr.moved hb) hf
  have hn0 := fun (kind : Int) w' (hb : Below w.heap.size w w') => gnames_env (hE.moved hb) p.names _ kind (hr.names.below hb) hm1.1
  have hn1 := fun (kind : Int) w' (hb : Below w.heap.size w w') => gnames_env (hE.moved hb) p.ends _ kind (hr.ends.below hb) hm1.2.1
  have hih : ∀ (j : Nat) (e : PT) (w' : World), ps[j]? = some e → Below w.heap.size w w' → Calls Tryz.prog 103 #[chkV (.slice o7 T.length c7) (.slice o9 n9 c9) q, .agg #[.int .i64 (kf j), .slice (no j) (nn j) (nc j), .slice (eo j) (en j) (ec j), .slice (lo j) (ln j) (lc j)]] w' (GPost (patE T e) a w') := fun j e w' he hb => by
   rw [hps] at he
   have h := hall j e he
   rw [h.1]
   exact ih e _ _ _ w' (by have := PT.size_part he; omega) (hf.part he) (h.2.1.moved hb) (bel_then hb0 hb)
  have hcell : ∀ (j : Nat) (e : PT), ps[j]? = some e → ∃ b off, o2 = some ⟨b, off, none⟩ ∧ b < w.heap.size ∧ w.cell? ⟨b, off + j * 4, none⟩ = some (.int .i64 (kf j)) ∧ w.cell? ⟨b, off + j * 4 + 1, none⟩ = some (.slice (no j) (nn j) (nc j)) ∧ w.cell? ⟨b, off + j * 4 + 2, none⟩ = some (.slice (eo j) (en j) (ec j)) ∧ w.cell? ⟨b, off + j * 4 + 3, none⟩ = some (.slice (lo j) (ln j) (lc j)) := fun j e he => by
   rw [hps] at he
   exact (hall j e he).2.2
  have hpl : ps.length ≤ 1000 := by rw [hps]; exact hm1.2.2
  rw [← hP, ← hk]
  rw [← hk] at hshp
  rw [← hb1] at hshp
  rw [← hns] at hshp hn0 ⊢
  rw [← hes] at hshp hn1 ⊢
  rw [← hps] at hshp ⊢
  have hc0 := hn0 0
  have hc1 := hn0 1
  have hc2 := hn1 2
  rw [← hr1] at hc0
  rw [← hr2] at hc1
  rw [← hr3] at hc2
  have HSHP := Lib.hid hshp
  have HC0 := Lib.hid hc0
  have HC1 := Lib.hid hc1
  have HC2 := Lib.hid hc2
  have HIH := Lib.hid hih
  have HCELL := Lib.hid hcell
  have HPE := Lib.hid hPe
  have HQ := Lib.hid hE.hq
  clear hshp hc0 hc1 hc2 hn0 hn1 hih hcell hPe hP hk hns hes hps hb1 hr1 hr2 hr3 hall hr hf hs hm1 hb0 hE E ih
  clear p
  go_enter Tryz.func103, Tryz.ntmps103
  go_wp2_with fail
  obtain ⟨W, hW⟩ : ∃ W, W = (w.alloc (.cells #[.slice o7 T.length c7, .slice o9 n9 c9, needF q] 119)).alloc (.cells #[.int .i64 k, .slice o1 ns.length q1, .slice o3 es.length q3, .slice o2 ps.length q2] 58) := ⟨_, rfl⟩
  have hbW : Below w.heap.size w W := by rw [hW]; exact bel_new (bel_new (Below.refl _ _) _) _
  have hB0 : W.heap[w.heap.size]? = some (.cells #[.slice o7 T.length c7, .slice o9 n9 c9, needF q] 119 (0, 0)) := by
   rw [hW]; exact bel_get (bel_new (Below.refl _ _) _) (heap_alloc_new w _)
  have hB1 : W.heap[w.heap.size + 1]? = some (.cells #[.int .i64 k, .slice o1 ns.length q1, .slice o3 es.length q3, .slice o2 ps.length q2] 58 (0, 0)) := by
   rw [hW]
   have := heap_alloc_new (w.alloc (.cells #[.slice o7 T.length c7, .slice o9 n9 c9, needF q] 119)) (.cells #[.int .i64 k, .slice o1 ns.length q1, .slice o3 es.length q3, .slice o2 ps.length q2] 58)
   simpa using this
  unfold needF at hW
  rw [← hW]
  have BW := Lib.hid hbW
  obtain ⟨ι, K, hne, hkb, hks⟩ := kept_family W
  have KB := Lib.hid hkb
  have KS := Lib.hid hks
  have kc : ∀ i, (K i).cell? ⟨w.heap.size, 0, none⟩ = some (.slice o7 T.length c7) ∧ (K i).cell? ⟨w.heap.size, 1, none⟩ = some (.slice o9 n9 c9) ∧ (K i).cell? ⟨w.heap.size, 2, none⟩ = some (.func (Fn.func 60) #[] #[.pointer (some ⟨q, 0, none⟩)]) := fun i => by
   have := bel_get (hkb i) hB0
   simp [World.cell?, this]
  have kt : ∀ i, (K i).cell? ⟨w.heap.size + 1, 0, none⟩ = some (.int .i64 k) ∧ (K i).cell? ⟨w.heap.size + 1, 1, none⟩ = some (.slice o1 ns.length q1) ∧ (K i).cell? ⟨w.heap.size + 1, 2, none⟩ = some (.slice o3 es.length q3) ∧ (K i).cell? ⟨w.heap.size + 1, 3, none⟩ = some (.slice o2 ps.length q2) := fun i => by
   have := bel_get (hkb i) hB1
   simp [World.cell?, this]
  have k0 := fun i => (kc i).1
  have k1 := fun i => (kc i).2.1
  have k2 := fun i => (kc i).2.2
  have k3 := fun i => (kt i).1
  have k4 := fun i => (kt i).2.1
  have k5 := fun i => (kt i).2.2.1
  have k6 := fun i => (kt i).2.2.2
  have hcs : ∀ i, Calls Tryz.prog 135 #[.agg #[.int .i64 k, .slice o1 ns.length q1, .slice o3 es.length q3, .slice o2 ps.length q2]] (K i) fun e w'' => e = .returned (.bool b1) ∧ ∃ j, w'' = K j := fun i => calls_kept hkb hks (HSHP.out (K i) (bel_then hbW (hkb i)))
  have hc0 : ∀ i, Calls Tryz.prog 101 #[chkV (.slice o7 T.length c7) (.slice o9 n9 c9) q, .slice o1 ns.length q1, .int .i64 0] (K i) (GPost r1 a (K i)) := fun i => HC0.out (K i) (bel_then hbW (hkb i))
  have hc1 : ∀ i, Calls Tryz.prog 101 #[chkV (.slice o7 T.length c7) (.slice o9 n9 c9) q, .slice o1 ns.length q1, .int .i64 1] (K i) (GPost r2 a (K i)) := fun i => HC1.out (K i) (bel_then hbW (hkb i))
  have hc2 : ∀ i, Calls Tryz.prog 101 #[chkV (.slice o7 T.length c7) (.slice o9 n9 c9) q, .slice o3 es.length q3, .int .i64 2] (K i) (GPost r3 a (K i)) := fun i => HC2.out (K i) (bel_then hbW (hkb i))
  have HCS := Lib.hid hcs
  have HD0 := Lib.hid hc0
  have HD1 := Lib.hid hc1
  have HD2 := Lib.hid hc2
  have kS := hks _ (Below.refl W.heap.size W).drew
  clear hcs hc0 hc1 hc2 HC0 HC1 HC2 HSHP hW hbW hB0 hB1 hkb hks kc kt
  cases b1 with
  | false =>
   refine region_tail K 4 (by kernel_rfl) (by kernel_rfl) kS ?_
   simp only [List.take_succ_cons, List.take_zero, List.drop_succ_cons, List.drop_zero]
   repeat (go_big_quiet_step (exact HCS.out _))
   refine wpQuiet_nil ?_
   rintro _ ⟨iw, rfl⟩
   have HB := Lib.hid (bel_then BW.out (KB.out iw))
   have HR := Lib.hid (show some 5 = P by rw [HPE.out]; rfl)
   go_wp2_with fail
   refine (need_no q 5 a _ (bel_get HB.out HQ.out)).mono ?_
   rintro e w3 ⟨rfl, rfl⟩
   go_wp2_with fail
   refine ⟨rfl, ?_⟩
   unfold GPost
   rw [← HR.out]
   exact ⟨rfl, HB.out⟩
  | true =>
   have HPF := Lib.hid (show P = orE (if k = 2 then r1 else if k = 3 then orE r2 r3 else none) (patEL T ps) by rw [HPE.out]; rfl)
   clear HPE
   refine (show ∀ _ : True, _ from fun _ => ?_) trivial
   refine region_tail K 4 (by kernel_rfl) (by kernel_rfl) kS ?_
   simp only [List.take_succ_cons, List.take_zero, List.drop_succ_cons, List.drop_zero]
   repeat (go_big_quiet_step (exact HCS.out _))
   refine wpQuiet_nil ?_
   rintro _ ⟨iw, rfl⟩
   have HB := Lib.hid (bel_then BW.out (KB.out iw))
   go_wp2_with fail
   refine (need_ok q 5 _).mono ?_
   rintro e w3 ⟨rfl, rfl⟩
   have hkd : ((k == 2) = true ∧ P = orE r1 (patEL T ps)) ∨ ((k == 2) = false ∧ (k == 3) = true ∧ P = orE (orE r2 r3) (patEL T ps)) ∨ ((k == 2) = false ∧ (k == 3) = false ∧ P = patEL T ps) := by
    have h := HPF.out
    by_cases h2 : k = 2
    · rw [if_pos h2] at h; exact .inl ⟨by simp [h2], h⟩
    · rw [if_neg h2] at h
      by_cases h3 : k = 3
      · rw [if_pos h3] at h; exact .inr (.inl ⟨by simp [h2], by simp [h3], h⟩)
      · rw [if_neg h3] at h; exact .inr (.inr ⟨by simp [h2], by simp [h3], h⟩)
   clear HPF
   rcases hkd with ⟨d2, hp⟩ | ⟨d2, d3, hp⟩ | ⟨d2, d3, hp⟩
   · have d3 : (k == 3) = false := by have : k = 2 := by simpa using d2
                                      simp [this]
     have hl1 : ∀ cd, r1 = some cd → some cd = P := fun cd h => by rw [hp, h]; rfl
     have hl0 : r1 = none → P = patEL T ps := fun h => by rw [hp, h]; rfl
     have HL1 := Lib.hid hl1
     have HL0 := Lib.hid hl0
     clear hl1 hl0 hp
     go_wp2_with fail
     refine (HD0.out iw).mono ?_
     intro e w3 hg
     unfold GPost at hg
     cases r1 with
     | some cd =>
      obtain ⟨rfl, hb⟩ := hg
      have HB3 := Lib.hid (bel_then HB.out hb)
      clear hb
      have HR := Lib.hid (HL1.out cd rfl)
      go_wp2_with fail
      refine ⟨rfl, ?_⟩
      unfold GPost
      rw [← HR.out]
      exact ⟨rfl, HB3.out⟩
     | none =>
      obtain ⟨rfl, hb⟩ := hg
      clear HB
      obtain ⟨iw, rfl⟩ := KS.out _ (bel_then (KB.out iw) hb)
      have HB := Lib.hid (bel_then BW.out (KB.out iw))
      clear hb
      have HL := Lib.hid (HL0.out (by first | exact trivial | rfl))
      clear HL0 HL1
      go_wp2_with fail
      clear HB
      go_loopg [32] ps.length (fun g s wx => ∃ (kk : Nat) (j : ι), kk + g = ps.length ∧ s = .int .i64 kk ∧ wx = K j ∧ P = patEL T (ps.drop kk))
      case atStart => exact ⟨0, _, by omega, rfl, rfl, HL.out⟩
      case round =>
       obtain ⟨kk, j, hkg, rfl, rfl, hpp⟩ := hrel
       cases gk with
       | zero =>
        obtain rfl : kk = ps.length := by omega
        have hd : decide ((ps.length : Int) < (ps.length : Int)) = false := by simp
        rw [List.drop_length, patEL_nil] at hpp
        have HX := Lib.hid hpp
        clear hpp
        have HB := Lib.hid (bel_then BW.out (KB.out j))
        go_wp2_with fail
        refine bodyPost_end (results_none rfl _ _ _) rfl ?_
        unfold GPost
        rw [HX.out]
        exact ⟨rfl, HB.out⟩
       | succ g =>
        have hk : kk < ps.length := by omega
        have hd : decide ((kk : Int) < (ps.length : Int)) = true := by simp; omega
        have hk1 : (0 : Int) ≤ (kk : Int) := by omega
        have hk2 : (kk : Int) < (ps.length : Int) := by omega
        have hk9 : (kk : Int) ≤ 1000 := by omega
        obtain ⟨e, he⟩ : ∃ e, ps[kk]? = some e := ⟨_, List.getElem?_eq_getElem hk⟩
        have hxe : ps[kk] = e := by rw [List.getElem?_eq_getElem hk] at he; exact Option.some.inj he
        rw [List.drop_eq_getElem_cons hk, hxe, patEL_cons] at hpp
        obtain ⟨b, off, rfl, hlt, g0, g1, g2, g3⟩ := HCELL.out kk e he
        have m0 : (K j).cell? ⟨b, off + kk * 4, none⟩ = some (.int .i64 (kf kk)) := ((bel_then BW.out (KB.out j)).cell hlt).trans g0
        have m1 : (K j).cell? ⟨b, off + kk * 4 + 1, none⟩ = some (.slice (no kk) (nn kk) (nc kk)) := ((bel_then BW.out (KB.out j)).cell hlt).trans g1
        have m2 : (K j).cell? ⟨b, off + kk * 4 + 2, none⟩ = some (.slice (eo kk) (en kk) (ec kk)) := ((bel_then BW.out (KB.out j)).cell hlt).trans g2
        have m3 : (K j).cell? ⟨b, off + kk * 4 + 3, none⟩ = some (.slice (lo kk) (ln kk) (lc kk)) := ((bel_then BW.out (KB.out j)).cell hlt).trans g3
        obtain ⟨r, hr⟩ : ∃ r, r = patE T e := ⟨_, rfl⟩
        have hcall := fun w' (hb : Below w.heap.size w w') => HIH.out kk e w' he hb
        rw [← hr] at hcall hpp
        obtain ⟨f0, hf0⟩ : ∃ d, d = kf kk := ⟨_, rfl⟩
        obtain ⟨f1, hf1⟩ : ∃ d, d = no kk := ⟨_, rfl⟩
        obtain ⟨f2, hf2⟩ : ∃ d, d = nn kk := ⟨_, rfl⟩
        obtain ⟨f3, hf3⟩ : ∃ d, d = nc kk := ⟨_, rfl⟩
        obtain ⟨f4, hf4⟩ : ∃ d, d = eo kk := ⟨_, rfl⟩
        obtain ⟨f5, hf5⟩ : ∃ d, d = en kk := ⟨_, rfl⟩
        obtain ⟨f6, hf6⟩ : ∃ d, d = ec kk := ⟨_, rfl⟩
        obtain ⟨f7, hf7⟩ : ∃ d, d = lo kk := ⟨_, rfl⟩
        obtain ⟨f8, hf8⟩ : ∃ d, d = ln kk := ⟨_, rfl⟩
        obtain ⟨f9, hf9⟩ : ∃ d, d = lc kk := ⟨_, rfl⟩
        rw [← hf0] at m0 hcall
        rw [← hf1, ← hf2, ← hf3] at m1 hcall
        rw [← hf4, ← hf5, ← hf6] at m2 hcall
        rw [← hf7, ← hf8, ← hf9] at m3 hcall
        have z0 : w.heap.size < (K j).heap.size := by
         have h := k0 j
         simp only [World.cell?] at h
         by_cases hh : w.heap.size < (K j).heap.size
         · exact hh
         · rw [Array.getElem?_eq_none (by omega)] at h; simp at h
        have z1 : ¬ w.heap.size = (K j).heap.size := by omega
        have HCALL := Lib.hid hcall
        have HPP := Lib.hid hpp
        have HB := Lib.hid (bel_then BW.out (KB.out j))
        clear hf0 hf1 hf2 hf3 hf4 hf5 hf6 hf7 hf8 hf9 hcall hpp hr he hxe g0 g1 g2 g3
        go_wp2_with fail
        refine (HCALL.out _ (bel_new HB.out _)).mono ?_
        intro e w3 hg
        unfold GPost at hg
        cases r with
        | some cd =>
         obtain ⟨rfl, hb⟩ := hg
         have HB3 := Lib.hid (bel_then (bel_new HB.out _) hb)
         clear hb
         have HR := Lib.hid (show some cd = P by rw [HPP.out]; rfl)
         go_wp2_with fail
         refine ⟨rfl, ?_⟩
         unfold GPost
         rw [← HR.out]
         exact ⟨rfl, HB3.out⟩
        | none =>
         obtain ⟨rfl, hb⟩ := hg
         obtain ⟨j2, hj2⟩ := KS.out _ (bel_then (bel_new (KB.out j) _) hb)
         have HR := Lib.hid (show P = patEL T (ps.drop (kk + 1)) by rw [HPP.out]; rfl)
         subst hj2
         clear hb
         go_wp2_with fail
         go_roundg g
         case measure => omega
         case rel => exact ⟨kk + 1, j2, by omega, by go_num, rfl, HR.out⟩
   · have hl1 : ∀ cd, r2 = some cd → some cd = P := fun cd h => by rw [hp, h]; rfl
     have hl2 : ∀ cd, r3 = some cd → r2 = none → some cd = P := fun cd h h2 => by rw [hp, h, h2]; rfl
     have hl0 : r2 = none → r3 = none → P = patEL T ps := fun h h2 => by rw [hp, h, h2]; rfl
     have HL1 := Lib.hid hl1
     have HL2 := Lib.hid hl2
     have HL0 := Lib.hid hl0
     clear hl1 hl2 hl0 hp
     go_wp2_with fail
     refine (HD1.out iw).mono ?_
     intro e w3 hg
     unfold GPost at hg
     cases r2 with
     | some cd =>
      obtain ⟨rfl, hb⟩ := hg
      have HB3 := Lib.hid (bel_then HB.out hb)
      clear hb
      have HR := Lib.hid (HL1.out cd rfl)
      go_wp2_with fail
      refine ⟨rfl, ?_⟩
      unfold GPost
      rw [← HR.out]
      exact ⟨rfl, HB3.out⟩
     | none =>
      obtain ⟨rfl, hb⟩ := hg
      clear HB
      obtain ⟨iw, rfl⟩ := KS.out _ (bel_then (KB.out iw) hb)
      have HB := Lib.hid (bel_then BW.out (KB.out iw))
      clear hb
      go_wp2_with fail
      refine (HD2.out iw).mono ?_
      intro e w3 hg
      unfold GPost at hg
      cases r3 with
      | some cd =>
       obtain ⟨rfl, hb⟩ := hg
       have HB3 := Lib.hid (bel_then HB.out hb)
       clear hb
       have HR := Lib.hid ((fun cd h => HL2.out cd h (by first | exact trivial | rfl)) cd rfl)
       go_wp2_with fail
       refine ⟨rfl, ?_⟩
       unfold GPost
       rw [← HR.out]
       exact ⟨rfl, HB3.out⟩
      | none =>
       obtain ⟨rfl, hb⟩ := hg
       clear HB
       obtain ⟨iw, rfl⟩ := KS.out _ (bel_then (KB.out iw) hb)
       have HB := Lib.hid (bel_then BW.out (KB.out iw))
       clear hb
       have HL := Lib.hid (HL0.out (by first | exact trivial | rfl) (by first | exact trivial | rfl))
       clear HL0 HL1 HL2
       go_wp2_with fail
       clear HB
       go_loopg [32] ps.length (fun g s wx => ∃ (kk : Nat) (j : ι), kk + g = ps.length ∧ s = .int .i64 kk ∧ wx = K j ∧ P = patEL T (ps.drop kk))
       case atStart => exact ⟨0, _, by omega, rfl, rfl, HL.out⟩
       case round =>
        obtain ⟨kk, j, hkg, rfl, rfl, hpp⟩ := hrel
        cases gk with
        | zero =>
         obtain rfl : kk = ps.length := by omega
         have hd : decide ((ps.length : Int) < (ps.length : Int)) = false := by simp
         rw [List.drop_length, patEL_nil] at hpp
         have HX := Lib.hid hpp
         clear hpp
         have HB := Lib.hid (bel_then BW.out (KB.out j))
         go_wp2_with fail
         refine bodyPost_end (results_none rfl _ _ _) rfl ?_
         unfold GPost
         rw [HX.out]
         exact ⟨rfl, HB.out⟩
        | succ g =>
         have hk : kk < ps.length := by omega
         have hd : decide ((kk : Int) < (ps.length : Int)) = true := by simp; omega
         have hk1 : (0 : Int) ≤ (kk : Int) := by omega
         have hk2 : (kk : Int) < (ps.length : Int) := by omega
         have hk9 : (kk : Int) ≤ 1000 := by omega
         obtain ⟨e, he⟩ : ∃ e, ps[kk]? = some e := ⟨_, List.getElem?_eq_getElem hk⟩
         have hxe : ps[kk] = e := by rw [List.getElem?_eq_getElem hk] at he; exact Option.some.inj he
         rw [List.drop_eq_getElem_cons hk, hxe, patEL_cons] at hpp
         obtain ⟨b, off, rfl, hlt, g0, g1, g2, g3⟩ := HCELL.out kk e he
         have m0 : (K j).cell? ⟨b, off + kk * 4, none⟩ = some (.int .i64 (kf kk)) := ((bel_then BW.out (KB.out j)).cell hlt).trans g0
         have m1 : (K j).cell? ⟨b, off + kk * 4 + 1, none⟩ = some (.slice (no kk) (nn kk) (nc kk)) := ((bel_then BW.out (KB.out j)).cell hlt).trans g1
         have m2 : (K j).cell? ⟨b, off + kk * 4 + 2, none⟩ = some (.slice (eo kk) (en kk) (ec kk)) := ((bel_then BW.out (KB.out j)).cell hlt).trans g2
         have m3 : (K j).cell? ⟨b, off + kk * 4 + 3, none⟩ = some (.slice (lo kk) (ln kk) (lc kk)) := ((bel_then BW.out (KB.out j)).cell hlt).trans g3
         obtain ⟨r, hr⟩ : ∃ r, r = patE T e := ⟨_, rfl⟩
         have hcall := fun w' (hb : Below w.heap.size w w') => HIH.out kk e w' he hb
         rw [← hr] at hcall hpp
         obtain ⟨f0, hf0⟩ : ∃ d, d = kf kk := ⟨_, rfl⟩
         obtain ⟨f1, hf1⟩ : ∃ d, d = no kk := ⟨_, rfl⟩
         obtain ⟨f2, hf2⟩ : ∃ d, d = nn kk := ⟨_, rfl⟩
         obtain ⟨f3, hf3⟩ : ∃ d, d = nc kk := ⟨_, rfl⟩
         obtain ⟨f4, hf4⟩ : ∃ d, d = eo kk := ⟨_, rfl⟩
         obtain ⟨f5, hf5⟩ : ∃ d, d = en kk := ⟨_, rfl⟩
         obtain ⟨f6, hf6⟩ : ∃ d, d = ec kk := ⟨_, rfl⟩
         obtain ⟨f7, hf7⟩ : ∃ d, d = lo kk := ⟨_, rfl⟩
         obtain ⟨f8, hf8⟩ : ∃ d, d = ln kk := ⟨_, rfl⟩
         obtain ⟨f9, hf9⟩ : ∃ d, d = lc kk := ⟨_, rfl⟩
         rw [← hf0] at m0 hcall
         rw [← hf1, ← hf2, ← hf3] at m1 hcall
         rw [← hf4, ← hf5, ← hf6] at m2 hcall
         rw [← hf7, ← hf8, ← hf9] at m3 hcall
         have z0 : w.heap.size < (K j).heap.size := by
          have h := k0 j
          simp only [World.cell?] at h
          by_cases hh : w.heap.size < (K j).heap.size
          · exact hh
          · rw [Array.getElem?_eq_none (by omega)] at h; simp at h
         have z1 : ¬ w.heap.size = (K j).heap.size := by omega
         have HCALL := Lib.hid hcall
         have HPP := Lib.hid hpp
         have HB := Lib.hid (bel_then BW.out (KB.out j))
         clear hf0 hf1 hf2 hf3 hf4 hf5 hf6 hf7 hf8 hf9 hcall hpp hr he hxe g0 g1 g2 g3
         go_wp2_with fail
         refine (HCALL.out _ (bel_new HB.out _)).mono ?_
         intro e w3 hg
         unfold GPost at hg
         cases r with
         | some cd =>
          obtain ⟨rfl, hb⟩ := hg
          have HB3 := Lib.hid (bel_then (bel_new HB.out _) hb)
          clear hb
          have HR := Lib.hid (show some cd = P by rw [HPP.out]; rfl)
          go_wp2_with fail
          refine ⟨rfl, ?_⟩
          unfold GPost
          rw [← HR.out]
          exact ⟨rfl, HB3.out⟩
         | none =>
          obtain ⟨rfl, hb⟩ := hg
          obtain ⟨j2, hj2⟩ := KS.out _ (bel_then (bel_new (KB.out j) _) hb)
          have HR := Lib.hid (show P = patEL T (ps.drop (kk + 1)) by rw [HPP.out]; rfl)
          subst hj2
          clear hb
          go_wp2_with fail
          go_roundg g
          case measure => omega
          case rel => exact ⟨kk + 1, j2, by omega, by go_num, rfl, HR.out⟩
   · have HL := Lib.hid hp
     clear hp
     go_wp2_with fail
     clear HB
     go_loopg [32] ps.length (fun g s wx => ∃ (kk : Nat) (j : ι), kk + g = ps.length ∧ s = .int .i64 kk ∧ wx = K j ∧ P = patEL T (ps.drop kk))
     case atStart => exact ⟨0, _, by omega, rfl, rfl, HL.out⟩
     case round =>
      obtain ⟨kk, j, hkg, rfl, rfl, hpp⟩ := hrel
      cases gk with
      | zero =>
       obtain rfl : kk = ps.length := by omega
       have hd : decide ((ps.length : Int) < (ps.length : Int)) = false := by simp
       rw [List.drop_length, patEL_nil] at hpp
       have HX := Lib.hid hpp
       clear hpp
       have HB := Lib.hid (bel_then BW.out (KB.out j))
       go_wp2_with fail
       refine bodyPost_end (results_none rfl _ _ _) rfl ?_
       unfold GPost
       rw [HX.out]
       exact ⟨rfl, HB.out⟩
      | succ g =>
       have hk : kk < ps.length := by omega
       have hd : decide ((kk : Int) < (ps.length : Int)) = true := by simp; omega
       have hk1 : (0 : Int) ≤ (kk : Int) := by omega
       have hk2 : (kk : Int) < (ps.length : Int) := by omega
       have hk9 : (kk : Int) ≤ 1000 := by omega
       obtain ⟨e, he⟩ : ∃ e, ps[kk]? = some e := ⟨_, List.getElem?_eq_getElem hk⟩
       have hxe : ps[kk] = e := by rw [List.getElem?_eq_getElem hk] at he; exact Option.some.inj he
       rw [List.drop_eq_getElem_cons hk, hxe, patEL_cons] at hpp
       obtain ⟨b, off, rfl, hlt, g0, g1, g2, g3⟩ := HCELL.out kk e he
       have m0 : (K j).cell? ⟨b, off + kk * 4, none⟩ = some (.int .i64 (kf kk)) := ((bel_then BW.out (KB.out j)).cell hlt).trans g0
       have m1 : (K j).cell? ⟨b, off + kk * 4 + 1, none⟩ = some (.slice (no kk) (nn kk) (nc kk)) := ((bel_then BW.out (KB.out j)).cell hlt).trans g1
       have m2 : (K j).cell? ⟨b, off + kk * 4 + 2, none⟩ = some (.slice (eo kk) (en kk) (ec kk)) := ((bel_then BW.out (KB.out j)).cell hlt).trans g2
       have m3 : (K j).cell? ⟨b, off + kk * 4 + 3, none⟩ = some (.slice (lo kk) (ln kk) (lc kk)) := ((bel_then BW.out (KB.out j)).cell hlt).trans g3
       obtain ⟨r, hr⟩ : ∃ r, r = patE T e := ⟨_, rfl⟩
       have hcall := fun w' (hb : Below w.heap.size w w') => HIH.out kk e w' he hb
       rw [← hr] at hcall hpp
       obtain ⟨f0, hf0⟩ : ∃ d, d = kf kk := ⟨_, rfl⟩
       obtain ⟨f1, hf1⟩ : ∃ d, d = no kk := ⟨_, rfl⟩
       obtain ⟨f2, hf2⟩ : ∃ d, d = nn kk := ⟨_, rfl⟩
       obtain ⟨f3, hf3⟩ : ∃ d, d = nc kk := ⟨_, rfl⟩
       obtain ⟨f4, hf4⟩ : ∃ d, d = eo kk := ⟨_, rfl⟩
       obtain ⟨f5, hf5⟩ : ∃ d, d = en kk := ⟨_, rfl⟩
       obtain ⟨f6, hf6⟩ : ∃ d, d = ec kk := ⟨_, rfl⟩
       obtain ⟨f7, hf7⟩ : ∃ d, d = lo kk := ⟨_, rfl⟩
       obtain ⟨f8, hf8⟩ : ∃ d, d = ln kk := ⟨_, rfl⟩
       obtain ⟨f9, hf9⟩ : ∃ d, d = lc kk := ⟨_, rfl⟩
       rw [← hf0] at m0 hcall
       rw [← hf1, ← hf2, ← hf3] at m1 hcall
       rw [← hf4, ← hf5, ← hf6] at m2 hcall
       rw [← hf7, ← hf8, ← hf9] at m3 hcall
       have z0 : w.heap.size < (K j).heap.size := by
        have h := k0 j
        simp only [World.cell?] at h
        by_cases hh : w.heap.size < (K j).heap.size
        · exact hh
        · rw [Array.getElem?_eq_none (by omega)] at h; simp at h
       have z1 : ¬ w.heap.size = (K j).heap.size := by omega
       have HCALL := Lib.hid hcall
       have HPP := Lib.hid hpp
       have HB := Lib.hid (bel_then BW.out (KB.out j))
       clear hf0 hf1 hf2 hf3 hf4 hf5 hf6 hf7 hf8 hf9 hcall hpp hr he hxe g0 g1 g2 g3
       go_wp2_with fail
       refine (HCALL.out _ (bel_new HB.out _)).mono ?_
       intro e w3 hg
       unfold GPost at hg
       cases r with
       | some cd =>
        obtain ⟨rfl, hb⟩ := hg
        have HB3 := Lib.hid (bel_then (bel_new HB.out _) hb)
        clear hb
        have HR := Lib.hid (show some cd = P by rw [HPP.out]; rfl)
        go_wp2_with fail
        refine ⟨rfl, ?_⟩
        unfold GPost
        rw [← HR.out]
        exact ⟨rfl, HB3.out⟩
       | none =>
        obtain ⟨rfl, hb⟩ := hg
        obtain ⟨j2, hj2⟩ := KS.out _ (bel_then (bel_new (KB.out j) _) hb)
        have HR := Lib.hid (show P = patEL T (ps.drop (kk + 1)) by rw [HPP.out]; rfl)
        subst hj2
        clear hb
        go_wp2_with fail
        go_roundg g
        case measure => omega
        case rel => exact ⟨kk + 1, j2, by omega, by go_num, rfl, HR.out⟩
end Go.Proofs.YtfkmajjgkdjncaaGreatDoor
