/- gram.Check. -/
import Derived.Test.YtbanmggkfpnalaaGreatDoorGRule
import Derived.Defers
set_option linter.unusedVariables false
set_option linter.unusedSimpArgs false
namespace Go.Proofs.YtbanmggkfpnalaaGreatDoor
open Go.RowKit Ru

/-- the first error of the tokens, and where -/
def toksE (T : List TK) : Nat → List TK → Option (Int × Int)
  | _, [] => none
  | i, t :: l => match tokE T i t with | some c => some (c, (i : Int)) | none => toksE T (i + 1) l
theorem toksE_nil (T : List TK) (i : Nat) : toksE T i [] = none := rfl
theorem toksE_cons (T : List TK) (i : Nat) (t : TK) (l : List TK) : toksE T i (t :: l) = match tokE T i t with | some c => some (c, (i : Int)) | none => toksE T (i + 1) l := rfl
/-- the first error of the rules, and where -/
def rulesE (T : List TK) : Nat → List RU → Option (Int × Int)
  | _, [] => none
  | i, t :: l => match ruleE T t with | some c => some (c, (T.length : Int) + (i : Int)) | none => rulesE T (i + 1) l
theorem rulesE_nil (T : List TK) (i : Nat) : rulesE T i [] = none := rfl
theorem rulesE_cons (T : List TK) (i : Nat) (t : RU) (l : List RU) : rulesE T i (t :: l) = match ruleE T t with | some c => some (c, (T.length : Int) + (i : Int)) | none => rulesE T (i + 1) l := rfl
/-- the first error of a grammar, and where -/
def chkE (T : List TK) (R : List RU) : Int × Int :=
  if ¬ (1 ≤ T.length ∧ T.length ≤ 16) then (6, 0) else match toksE T 0 T with
    | some e => e
    | none => if ¬ R.length ≤ 8 then (6, (T.length : Int)) else match rulesE T 0 R with | some e => e | none => (0, 0)
/-- numbers that a machine holds -/
def TFit (T : List TK) : Prop := ∀ (i : Nat) (t : TK), T[i]? = some t → t.name.size ≤ 1000 ∧ t.re.Fit
def RFit (R : List RU) : Prop := ∀ (i : Nat) (r : RU), R[i]? = some r → r.steps.length ≤ 1000 ∧ SFit r.steps
theorem RusAre.form {w : World} {v : Value} {l : List RU} (h : RusAre w v l) : ∃ o c, v = .slice o l.length c := by
  obtain ⟨ps, h1, ⟨o, c, h2, _⟩, _⟩ := h; exact ⟨o, c, h2⟩
theorem RusAre.get {w : World} {v : Value} {l : List RU} (h : RusAre w v l) {i : Nat} {r : RU} (hs : l[i]? = some r) :
    ∃ b off cap so sc, v = .slice (some ⟨b, off, none⟩) l.length cap ∧ b < w.heap.size ∧ StsAre w (.slice so r.steps.length sc) r.steps ∧ w.cell? ⟨b, off + i * 3, none⟩ = some (.int .i64 r.cls) ∧ w.cell? ⟨b, off + i * 3 + 1, none⟩ = some (.bool r.free) ∧ w.cell? ⟨b, off + i * 3 + 2, none⟩ = some (.slice so r.steps.length sc) := by
  obtain ⟨ps, rfl, hrow, hall⟩ := h
  rw [List.getElem?_map] at hs
  obtain ⟨p, hp, rfl⟩ := Option.map_eq_some_iff.1 hs
  have hi : i < ps.length := (List.getElem?_eq_some_iff.1 hp).1
  obtain ⟨b, off, cap, e, hb, hc⟩ := hrow.cells' (by simp; omega)
  have h1 := hall i p hp
  obtain ⟨so, sc, e1⟩ := h1.form
  have hget : ∀ j u, (three p)[j]? = some u → j < 3 → w.cell? ⟨b, off + (i * 3 + j), none⟩ = some u := fun j u hu hj => hc _ _ (by rw [fm_get three 3 (fun _ => rfl) ps i j p hp hj]; exact hu)
  refine ⟨b, off, cap, so, sc, e, hb, by rw [← e1]; exact h1, ?_, ?_, ?_⟩
  · exact hget 0 _ rfl (by omega)
  · rw [Nat.add_assoc]; exact hget 1 _ rfl (by omega)
  · rw [Nat.add_assoc, ← e1]; exact hget 2 _ rfl (by omega)
/-- the blocks of Check -/
structure CK (w w' : World) (tv rv : Value) (a : Int) : Prop where
  bel : Below w.heap.size w w'
  hi : w.heap.size + 5 ≤ w'.heap.size
  hg : w'.heap[w.heap.size]? = some (.cells #[tv, rv] 35 (0, 0))
  h1 : w'.heap[w.heap.size + 1]? = some (.cells #[.int .i64 0] 3 (0, 0))
  h2 : w'.heap[w.heap.size + 1 + 1]? = some (.cells #[.int .i64 0] 3 (0, 0))
  ha : w'.heap[w.heap.size + 1 + 1 + 1]? = some (.cells #[.int .i64 a] 3 (0, 0))
  hc : w'.heap[w.heap.size + 1 + 1 + 1 + 1]? = some (.cells #[tv, rv, needF (w.heap.size + 1 + 1 + 1)] 105 (0, 0))
theorem CK.moved {w w' w'' : World} {tv rv : Value} {a : Int} (h : CK w w' tv rv a) (hb : Below w'.heap.size w' w'') : CK w w'' tv rv a :=
  ⟨bel_then h.bel hb, Nat.le_trans h.hi hb.size, bel_get hb h.hg, bel_get hb h.h1, bel_get hb h.h2, bel_get hb h.ha, bel_get hb h.hc⟩
theorem CK.set {w w' : World} {tv rv : Value} {a : Int} (h : CK w w' tv rv a) (b : Int) : CK w (w'.setCell ⟨w.heap.size + 1 + 1 + 1, 0, none⟩ (.int .i64 b)) tv rv b := by
  refine ⟨h.bel.setCell (by simp; omega) _, by simpa [World.setCell] using h.hi, ?_, ?_, ?_, ?_, ?_⟩
  · rw [Below.heap_setCell _ _ _ _ (by simp; omega)]; exact h.hg
  · rw [Below.heap_setCell _ _ _ _ (by simp)]; exact h.h1
  · rw [Below.heap_setCell _ _ _ _ (by simp)]; exact h.h2
  · exact cell1_set h.ha _
  · rw [Below.heap_setCell _ _ _ _ (by simp)]; exact h.hc
theorem CK.cells {w w' : World} {tv rv : Value} {a : Int} (h : CK w w' tv rv a) : w'.cell? ⟨w.heap.size, 0, none⟩ = some tv ∧ w'.cell? ⟨w.heap.size, 1, none⟩ = some rv ∧ w'.cell? ⟨w.heap.size + 1 + 1 + 1 + 1, 0, none⟩ = some tv ∧ w'.cell? ⟨w.heap.size + 1 + 1 + 1 + 1, 1, none⟩ = some rv ∧ w'.cell? ⟨w.heap.size + 1 + 1 + 1 + 1, 2, none⟩ = some (needF (w.heap.size + 1 + 1 + 1)) ∧
    w'.cell? ⟨w.heap.size + 1 + 1 + 1, 0, none⟩ = some (.int .i64 a) ∧ w'.frozen? ⟨w.heap.size + 1 + 1 + 1, 0, none⟩ = false := by
  have h0 := h.hg
  have h4 := h.hc
  obtain ⟨c, z⟩ := cell1_of h.ha
  simp only [World.cell?, h0, h4]
  exact ⟨rfl, rfl, rfl, rfl, rfl, c, z⟩
theorem CK.start (w W : World) (tv rv : Value) (hW : W = ((((w.alloc (.cells #[tv, rv] 35)).alloc (.cells #[.int .i64 0] 3)).alloc (.cells #[.int .i64 0] 3)).alloc (.cells #[.int .i64 0] 3)).alloc (.cells #[tv, rv, needF (w.heap.size + 1 + 1 + 1)] 105)) : CK w W tv rv 0 := by
  obtain ⟨w1, h1⟩ : ∃ w1, w1 = w.alloc (.cells #[tv, rv] 35) := ⟨_, rfl⟩
  rw [← h1] at hW
  obtain ⟨w2, h2⟩ : ∃ w2, w2 = w1.alloc (.cells #[.int .i64 0] 3) := ⟨_, rfl⟩
  rw [← h2] at hW
  obtain ⟨w3, h3⟩ : ∃ w3, w3 = w2.alloc (.cells #[.int .i64 0] 3) := ⟨_, rfl⟩
  rw [← h3] at hW
  obtain ⟨w4, h4⟩ : ∃ w4, w4 = w3.alloc (.cells #[.int .i64 0] 3) := ⟨_, rfl⟩
  rw [← h4] at hW
  have s1 : w1.heap.size = w.heap.size + 1 := by rw [h1]; simp
  have s2 : w2.heap.size = w.heap.size + 1 + 1 := by rw [h2]; simp [s1]
  have s3 : w3.heap.size = w.heap.size + 1 + 1 + 1 := by rw [h3]; simp [s2]
  have s4 : w4.heap.size = w.heap.size + 1 + 1 + 1 + 1 := by rw [h4]; simp [s3]
  have s5 : W.heap.size = w.heap.size + 1 + 1 + 1 + 1 + 1 := by rw [hW]; simp [s4]
  have b1 : Below w.heap.size w w1 := by rw [h1]; exact bel_new (Below.refl _ _) _
  have b2 : Below w1.heap.size w1 w2 := by rw [h2]; exact bel_new (Below.refl _ _) _
  have b3 : Below w2.heap.size w2 w3 := by rw [h3]; exact bel_new (Below.refl _ _) _
  have b4 : Below w3.heap.size w3 w4 := by rw [h4]; exact bel_new (Below.refl _ _) _
  have b5 : Below w4.heap.size w4 W := by rw [hW]; exact bel_new (Below.refl _ _) _
  have g1 := heap_alloc_new w (.cells #[tv, rv] 35)
  have g2 := heap_alloc_new w1 (.cells #[.int .i64 0] 3)
  have g3 := heap_alloc_new w2 (.cells #[.int .i64 0] 3)
  have g4 := heap_alloc_new w3 (.cells #[.int .i64 0] 3)
  have g5 := heap_alloc_new w4 (.cells #[tv, rv, needF (w.heap.size + 1 + 1 + 1)] 105)
  rw [← h1] at g1
  rw [← h2, s1] at g2
  rw [← h3, s2] at g3
  rw [← h4, s3] at g4
  rw [← hW, s4] at g5
  exact ⟨bel_then (bel_then (bel_then (bel_then b1 b2) b3) b4) b5, by omega, bel_get b5 (bel_get b4 (bel_get b3 (bel_get b2 g1))), bel_get b5 (bel_get b4 (bel_get b3 g2)), bel_get b5 (bel_get b4 g3), bel_get b5 g4, g5⟩
set_option maxHeartbeats 8000000 in
set_option maxRecDepth 100000 in
theorem gchk_any (T : List TK) (R : List RU) (tv rv : Value) (w : World) (hT : TksAre w tv T) (hR : RusAre w rv R) (hTl : T.length ≤ 1000) (hRl : R.length ≤ 1000) (hTf : TFit T) (hRf : RFit R) :
    Calls Tryz.prog 31 #[.agg #[tv, rv]] w fun e w' => e = .returned (.tuple #[.int .i64 (chkE T R).1, .int .i64 (chkE T R).2]) ∧ Below w.heap.size w w' := by
  have hmf : ∀ (fn : Fn) (first cap : Array Value) (w : World), (Instr.makeFunc fn first cap).run Tryz.prog w = .ok (.func fn first cap) w := fun _ _ _ _ => rfl
  obtain ⟨o7, c7, nm7, kd7, cl7, rk7, so7, sn7, sc7, lo7, ln7, lc7, rfl, -⟩ := hT.all
  obtain ⟨o9, c9, rfl⟩ := hR.form
  have HT := Lib.hid hT
  have HRU := Lib.hid hR
  have HTF := Lib.hid hTf
  have HRF := Lib.hid hRf
  clear hT hR hTf hRf
  by_cases hl1 : 1 ≤ T.length ∧ T.length ≤ 16
  · have d1 : decide ((1 : Int) ≤ (T.length : Int)) = true := by simp; omega
    have d2 : decide ((T.length : Int) ≤ (16 : Int)) = true := by simp; omega
    have HL1 := Lib.hid hl1
    clear hl1
    go_enter_defers Tryz.func31, Tryz.ntmps31
    go_wp2_with fail
    obtain ⟨W, hW⟩ : ∃ W, W = ((((w.alloc (.cells #[.slice o7 T.length c7, .slice o9 R.length c9] 35)).alloc (.cells #[.int .i64 0] 3)).alloc (.cells #[.int .i64 0] 3)).alloc (.cells #[.int .i64 0] 3)).alloc (.cells #[.slice o7 T.length c7, .slice o9 R.length c9, needF (w.heap.size + 1 + 1 + 1)] 105) := ⟨_, rfl⟩
    have CK0 := Lib.hid (CK.start w W _ _ hW)
    unfold needF at hW
    rw [← hW]
    refine (need_ok _ 6 _).mono ?_
    rintro e w3 ⟨rfl, rfl⟩
    clear hW
    obtain ⟨c0, c1, c2, c3, c4, c5, z5⟩ := CK0.out.cells
    go_wp2_with fail
    clear c0 c1 c2 c3 c4 c5 z5
    obtain ⟨E, hE⟩ : ∃ E, E = chkE T R := ⟨_, rfl⟩
    have hE1 : E = match toksE T 0 T with | some e => e | none => if ¬ R.length ≤ 8 then (6, (T.length : Int)) else match rulesE T 0 R with | some e => e | none => (0, 0) := by rw [hE]; unfold chkE; rw [if_neg (fun h => h HL1.out)]
    have HE := Lib.hid hE
    have HE1 := Lib.hid hE1
    clear hE hE1
    go_loopg [28] T.length (fun g s wx => ∃ (k : Nat) (a : Int), k + g = T.length ∧ s = .int .i64 k ∧ CK w wx (.slice o7 T.length c7) (.slice o9 R.length c9) a ∧ toksE T 0 T = toksE T k (T.drop k))
    case atStart => exact ⟨0, 0, by omega, rfl, CK0.out, rfl⟩
    case round =>
      obtain ⟨k, a, hkg, rfl, hck, hpp⟩ := hrel
      clear CK0
      obtain ⟨wo, rfl⟩ : ∃ wo : World, wo = wr := ⟨_, rfl⟩
      have CKO := Lib.hid hck
      obtain ⟨c0, c1, c2, c3, c4, c5, z5⟩ := hck.cells
      have hsz := hck.hi
      unfold needF at c4
      cases gk with
      | zero =>
        obtain rfl : k = T.length := by omega
        have hd : decide ((T.length : Int) < (T.length : Int)) = false := by simp
        rw [List.drop_length, toksE_nil] at hpp
        have hE2 := HE1.out
        rw [hpp] at hE2
        simp only at hE2
        have HE2 := Lib.hid hE2
        clear hpp hck hE2 HE1
        by_cases hl8 : R.length ≤ 8
        · have d8 : decide ((R.length : Int) ≤ (8 : Int)) = true := by simp; omega
          have hE3 : E = match rulesE T 0 R with | some e => e | none => (0, 0) := HE2.out.trans (if_neg (fun h => h hl8))
          have HE3 := Lib.hid hE3
          clear hE3 HE2 hl8
          go_wp2_with fail
          have CK2 := Lib.hid (CKO.out.set (T.length : Int))
          refine (need_ok _ 6 _).mono ?_
          rintro e w3 ⟨rfl, rfl⟩
          obtain ⟨W6, hW6⟩ : ∃ W6, W6 = wo.setCell ⟨w.heap.size + 1 + 1 + 1, 0, none⟩ (.int .i64 T.length) := ⟨_, rfl⟩
          rw [← hW6] at CK2 ⊢
          clear hW6 c0 c1 c2 c3 c4 c5 z5 hsz CKO hd
          obtain ⟨c0, c1, c2, c3, c4, c5, z5⟩ := CK2.out.cells
          go_wp2_with fail
          clear c0 c1 c2 c3 c4 c5 z5
          go_loopg [48] R.length (fun g s wx => ∃ (k : Nat) (a : Int), k + g = R.length ∧ s = .int .i64 k ∧ CK w wx (.slice o7 T.length c7) (.slice o9 R.length c9) a ∧ rulesE T 0 R = rulesE T k (R.drop k))
          case atStart => exact ⟨0, _, by omega, rfl, CK2.out, rfl⟩
          case round =>
            obtain ⟨k, a, hkg, rfl, hck, hpp⟩ := hrel
            clear CK2
            obtain ⟨wo, rfl⟩ : ∃ wo : World, wo = wr := ⟨_, rfl⟩
            have CKO := Lib.hid hck
            obtain ⟨c0, c1, c2, c3, c4, c5, z5⟩ := hck.cells
            have hsz := hck.hi
            unfold needF at c4
            cases gk with
            | zero =>
              obtain rfl : k = R.length := by omega
              have hd : decide ((R.length : Int) < (R.length : Int)) = false := by simp
              rw [List.drop_length, rulesE_nil] at hpp
              have HR := Lib.hid (HE.out.symm.trans (HE3.out.trans (by rw [hpp])))
              obtain ⟨d1, y1⟩ := cell1_of hck.h1
              obtain ⟨d2, y2⟩ := cell1_of hck.h2
              clear hpp hck HE3
              go_wp2
              refine leaves_cons (f := 68) (args := #[.pointer (some ⟨w.heap.size + 1, 0, none⟩), .pointer (some ⟨w.heap.size + 1 + 1, 0, none⟩)]) (by simp) (by simp [go_sem]) ?_
              refine (gcatch_idle _ _ _).mono ?_
              rintro e u' w'' ⟨rfl, rfl, rfl⟩
              obtain ⟨W8, hW8⟩ : ∃ W8, W8 = ((wo.setCell ⟨w.heap.size + 1, 0, none⟩ (.int .i64 0)).setCell ⟨w.heap.size + 1 + 1, 0, none⟩ (.int .i64 0)).alloc (.cells #[.int .i64 0, .int .i64 0] 101) := ⟨_, rfl⟩
              rw [← hW8]
              have hb8 : Below w.heap.size w W8 := by
                rw [hW8]
                exact (((CKO.out.bel.setCell (by simp) _).setCell (by simp; omega) _).alloc (by simp [World.setCell]; omega) _)
              have g1 : W8.heap[w.heap.size + 1]? = some (.cells #[.int .i64 0] 3 (0, 0)) := by
                rw [hW8, Below.heap_alloc _ _ _ (by simp [World.setCell]; omega), Below.heap_setCell _ _ _ _ (by simp)]
                exact cell1_set CKO.out.h1 _
              have g2 : W8.heap[w.heap.size + 1 + 1]? = some (.cells #[.int .i64 0] 3 (0, 0)) := by
                rw [hW8, Below.heap_alloc _ _ _ (by simp [World.setCell]; omega)]
                refine cell1_set (a := .int .i64 0) ?_ _
                rw [Below.heap_setCell _ _ _ _ (by simp)]
                exact CKO.out.h2
              clear d1 y1 d2 y2 hW8
              obtain ⟨d1, y1⟩ := cell1_of g1
              obtain ⟨d2, y2⟩ := cell1_of g2
              simp [Leaves, settle, results, Tryz.results31, go_sem, d1, d2]
              rw [HR.out]
              exact ⟨⟨rfl, rfl⟩, hb8⟩
            | succ g =>
              have hk : k < R.length := by omega
              have hd : decide ((k : Int) < (R.length : Int)) = true := by simp; omega
              have hk1 : (0 : Int) ≤ (k : Int) := by omega
              have hk2 : (k : Int) < (R.length : Int) := by omega
              have hk9 : (k : Int) ≤ 1000 := by omega
              have hk8 : (T.length : Int) ≤ 1000 := by omega
              obtain ⟨t, hte⟩ : ∃ e, R[k]? = some e := ⟨_, List.getElem?_eq_getElem hk⟩
              have hxe : R[k] = t := by rw [List.getElem?_eq_getElem hk] at hte; exact Option.some.inj hte
              rw [List.drop_eq_getElem_cons hk, hxe, rulesE_cons] at hpp
              obtain ⟨r, hr⟩ : ∃ r, r = ruleE T t := ⟨_, rfl⟩
              obtain ⟨b, off, cap, so, sc, e, hlt, hst, g0, g1, g2⟩ := HRU.out.get hte
              simp only [Value.slice.injEq, true_and] at e
              obtain ⟨rfl, rfl⟩ := e
              have m0 := (hck.bel.cell hlt).trans g0
              have m1 := (hck.bel.cell hlt).trans g1
              have m2 := (hck.bel.cell hlt).trans g2
              obtain ⟨at9, hat9⟩ : ∃ x : Int, x = (T.length : Int) + (k : Int) := ⟨_, rfl⟩
              have hcall := fun w' (h : CK w w' (.slice o7 T.length c7) (.slice (some ⟨b, off, none⟩) R.length c9) at9) => grule_any w' T (.slice o7 T.length c7) (.slice (some ⟨b, off, none⟩) R.length c9) _ at9 (w.heap.size + 1 + 1 + 1) t ⟨HT.out.moved h.bel, hTl, ⟨_, _, _, rfl⟩, h.ha⟩ (hst.moved h.bel) (HRF.out k t hte).1 (HRF.out k t hte).2
              rw [← hr] at hcall hpp
              rw [← hat9] at hpp
              obtain ⟨cls, fr, sts⟩ := t
              simp only at m0 m1 m2 hcall
              obtain ⟨sl, hsl⟩ : ∃ n, n = sts.length := ⟨_, rfl⟩
              rw [← hsl] at m2 hcall
              have zz0 : w.heap.size < wo.heap.size := by omega
              have zz3 : w.heap.size + 1 + 1 + 1 < wo.heap.size := by omega
              have zz4 : w.heap.size + 1 + 1 + 1 + 1 < wo.heap.size := by omega
              have HCALL := Lib.hid hcall
              have HPP := Lib.hid hpp
              have HAT := Lib.hid hat9
              clear hcall hpp hr hte hxe hck g0 g1 g2 hst hat9 hsl
              go_wp2_with fail
              rw [← HAT.out]
              have CK2 := Lib.hid ((CKO.out.set at9).moved (bel_new (Below.refl _ _) (.cells #[.int .i64 cls, .bool fr, .slice so sl sc] 64)))
              refine (HCALL.out _ CK2.out).mono ?_
              intro e w3 hg
              unfold GPost at hg
              cases r with
              | some cd =>
                obtain ⟨rfl, hb⟩ := hg
                have CK3 := Lib.hid (CK2.out.moved hb)
                clear hb
                have HR := Lib.hid (HE.out.symm.trans (HE3.out.trans (by rw [HPP.out])))
                go_wp2
                refine leaves_cons (f := 68) (args := #[.pointer (some ⟨w.heap.size + 1, 0, none⟩), .pointer (some ⟨w.heap.size + 1 + 1, 0, none⟩)]) (by simp) (by simp [go_sem]) ?_
                refine (gcatch_panic _ _ cd at9 _ _ _ CK3.out.h1 CK3.out.h2 (by omega)).mono ?_
                rintro e u' w7 ⟨rfl, rfl, K0, K1, hbel7⟩
                have HB7 : Below w.heap.size w w7 := CK3.out.bel.trans (hbel7 _ (by omega) (by omega) (by have := CK3.out.bel.size; omega))
                obtain ⟨c0, z0⟩ := cell1_of K0
                obtain ⟨c1, z1⟩ := cell1_of K1
                simp [Leaves, settle, results, Tryz.results31, go_sem, c0, c1]
                rw [HR.out]
                exact ⟨⟨rfl, rfl⟩, HB7⟩
              | none =>
                obtain ⟨rfl, hb⟩ := hg
                have CK3 := Lib.hid (CK2.out.moved hb)
                clear hb c0 c1 c2 c3 c4 c5 z5 hsz
                go_wp2_with fail
                go_roundg g
                case measure => omega
                case rel => exact ⟨k + 1, _, by omega, by go_num, CK3.out, HPP.out⟩
        · have d8 : decide ((R.length : Int) ≤ (8 : Int)) = false := by simp; omega
          have HE3 := Lib.hid (HE2.out.trans (if_pos hl8))
          clear HE2 hl8
          go_wp2_with fail
          have CK2 := Lib.hid (CKO.out.set (T.length : Int))
          refine (need_no _ 6 _ _ CK2.out.ha).mono ?_
          rintro e w3 ⟨rfl, rfl⟩
          have HR := Lib.hid (HE.out.symm.trans HE3.out)
          go_wp2
          refine leaves_cons (f := 68) (args := #[.pointer (some ⟨w.heap.size + 1, 0, none⟩), .pointer (some ⟨w.heap.size + 1 + 1, 0, none⟩)]) (by simp) (by simp [go_sem]) ?_
          refine (gcatch_panic _ _ 6 (T.length : Int) _ _ _ CK2.out.h1 CK2.out.h2 (by omega)).mono ?_
          rintro e u' w7 ⟨rfl, rfl, K0, K1, hbel7⟩
          have HB7 : Below w.heap.size w w7 := CK2.out.bel.trans (hbel7 _ (by omega) (by omega) (by have := CK2.out.bel.size; omega))
          obtain ⟨c0, z0⟩ := cell1_of K0
          obtain ⟨c1, z1⟩ := cell1_of K1
          simp [Leaves, settle, results, Tryz.results31, go_sem, c0, c1]
          rw [HR.out]
          exact ⟨⟨rfl, rfl⟩, HB7⟩
      | succ g =>
        have hk : k < T.length := by omega
        have hd : decide ((k : Int) < (T.length : Int)) = true := by simp; omega
        have hk1 : (0 : Int) ≤ (k : Int) := by omega
        have hk2 : (k : Int) < (T.length : Int) := by omega
        have hk9 : (k : Int) ≤ 1000 := by omega
        obtain ⟨t, hte⟩ : ∃ e, T[k]? = some e := ⟨_, List.getElem?_eq_getElem hk⟩
        have hxe : T[k] = t := by rw [List.getElem?_eq_getElem hk] at hte; exact Option.some.inj hte
        rw [List.drop_eq_getElem_cons hk, hxe, toksE_cons] at hpp
        obtain ⟨r, hr⟩ : ∃ r, r = tokE T k t := ⟨_, rfl⟩
        have hcall := fun w' (h : CK w w' (.slice o7 T.length c7) (.slice o9 R.length c9) (k : Int)) => gtok_any T k t _ (.slice o9 R.length c9) (k : Int) (w.heap.size + 1 + 1 + 1) w' (HT.out.moved h.bel) hTl ⟨_, _, _, rfl⟩ hte (HTF.out k t hte).1 (HTF.out k t hte).2 h.ha
        rw [← hr] at hcall hpp
        have HCALL := Lib.hid hcall
        have HPP := Lib.hid hpp
        clear hcall hpp hr hte hxe hck
        go_wp2_with fail
        have CK2 := Lib.hid (CKO.out.set (k : Int))
        refine (HCALL.out _ CK2.out).mono ?_
        intro e w3 hg
        unfold GPost at hg
        cases r with
        | some cd =>
          obtain ⟨rfl, hb⟩ := hg
          have CK3 := Lib.hid (CK2.out.moved hb)
          clear hb
          have HR := Lib.hid (HE.out.symm.trans (HE1.out.trans (by rw [HPP.out])))
          go_wp2
          refine leaves_cons (f := 68) (args := #[.pointer (some ⟨w.heap.size + 1, 0, none⟩), .pointer (some ⟨w.heap.size + 1 + 1, 0, none⟩)]) (by simp) (by simp [go_sem]) ?_
          refine (gcatch_panic _ _ cd (k : Int) _ _ _ CK3.out.h1 CK3.out.h2 (by omega)).mono ?_
          rintro e u' w7 ⟨rfl, rfl, K0, K1, hbel7⟩
          have HB7 : Below w.heap.size w w7 := CK3.out.bel.trans (hbel7 _ (by omega) (by omega) (by have := CK3.out.bel.size; omega))
          obtain ⟨c0, z0⟩ := cell1_of K0
          obtain ⟨c1, z1⟩ := cell1_of K1
          simp [Leaves, settle, results, Tryz.results31, go_sem, c0, c1]
          rw [HR.out]
          exact ⟨⟨rfl, rfl⟩, HB7⟩
        | none =>
          obtain ⟨rfl, hb⟩ := hg
          have CK3 := Lib.hid (CK2.out.moved hb)
          clear hb c0 c1 c2 c3 c4 c5 z5 hsz
          go_wp2_with fail
          go_roundg g
          case measure => omega
          case rel => exact ⟨k + 1, _, by omega, by go_num, CK3.out, HPP.out⟩
  · have hR : chkE T R = (6, 0) := by unfold chkE; rw [if_pos hl1]
    have d12 : decide ((1 : Int) ≤ (T.length : Int)) = false ∨ (decide ((1 : Int) ≤ (T.length : Int)) = true ∧ decide ((T.length : Int) ≤ (16 : Int)) = false) := by
      by_cases h : 1 ≤ T.length
      · right; exact ⟨by simp; omega, by simp; omega⟩
      · left; simp; omega
    have HR0 := Lib.hid hR
    clear hl1 hR
    rcases d12 with d1 | ⟨d1, d2⟩
    all_goals
      go_enter_defers Tryz.func31, Tryz.ntmps31
      go_wp2_with fail
      obtain ⟨W, hW⟩ : ∃ W, W = ((((w.alloc (.cells #[.slice o7 T.length c7, .slice o9 R.length c9] 35)).alloc (.cells #[.int .i64 0] 3)).alloc (.cells #[.int .i64 0] 3)).alloc (.cells #[.int .i64 0] 3)).alloc (.cells #[.slice o7 T.length c7, .slice o9 R.length c9, needF (w.heap.size + 1 + 1 + 1)] 105) := ⟨_, rfl⟩
      have CK0 := Lib.hid (CK.start w W _ _ hW)
      unfold needF at hW
      rw [← hW]
      refine (need_no _ 6 0 _ CK0.out.ha).mono ?_
      rintro e w3 ⟨rfl, rfl⟩
      clear hW
      have HR := Lib.hid (HR0.out)
      go_wp2
      refine leaves_cons (f := 68) (args := #[.pointer (some ⟨w.heap.size + 1, 0, none⟩), .pointer (some ⟨w.heap.size + 1 + 1, 0, none⟩)]) (by simp) (by simp [go_sem]) ?_
      refine (gcatch_panic _ _ 6 0 _ _ _ CK0.out.h1 CK0.out.h2 (by omega)).mono ?_
      rintro e u' w7 ⟨rfl, rfl, K0, K1, hbel7⟩
      have HB7 : Below w.heap.size w w7 := CK0.out.bel.trans (hbel7 _ (by omega) (by omega) (by have := CK0.out.bel.size; omega))
      obtain ⟨c0, z0⟩ := cell1_of K0
      obtain ⟨c1, z1⟩ := cell1_of K1
      simp [Leaves, settle, results, Tryz.results31, go_sem, c0, c1]
      rw [HR.out]
      exact ⟨⟨rfl, rfl⟩, HB7⟩
end Go.Proofs.YtbanmggkfpnalaaGreatDoor
