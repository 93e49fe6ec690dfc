/- runes: Norm, Not. -/
import Derived.Test.YtkngppkchaadhaaGreatRunePieces
import Derived.Test.YtkngppkchaadhaaGreatBut
set_option linter.unusedVariables false
set_option linter.unusedSimpArgs false
namespace Go.Proofs.YtkngppkchaadhaaGreat
open Go.RowKit Ru

namespace Ru
theorem length_ins (p : Pc) : ∀ l, (ins p l).length = l.length + 1
  | [] => rfl
  | q :: l => by unfold ins; split <;> simp [length_ins p l]
theorem length_srt : ∀ l, (srt l).length = l.length
  | [] => rfl
  | p :: l => by simp [srt, length_ins, length_srt l]
theorem pcs_le (l : List Pc) : (pcs l).length ≤ l.length := by
  have h1 := merge_len (srt (raw l))
  rw [length_srt] at h1
  exact Nat.le_trans h1 (raw_le l)
theorem nrm_le (l : List Pc) : (nrm l).length ≤ l.length := by unfold nrm; rw [rngs_lenZ]; exact pcs_le l
theorem cpl_le : ∀ (P : List Pc) (f : Int), (cpl f P).length ≤ P.length + 1
  | [], f => by unfold cpl; split <;> simp
  | p :: P, f => by have := cpl_le P p.2; unfold cpl; split <;> simp <;> omega
theorem nt_le (l : List Pc) : (nt l).length ≤ l.length + 1 := by unfold nt; rw [rngs_lenZ]; have := cpl_le (pcs l) 0; have := pcs_le l; omega
/-- all within range -/
theorem ok_of {P : List Pc} (h : Nf (-1) P) (h2 : Bd P) : ∀ q ∈ P, 0 ≤ q.1 ∧ q.1 < q.2 ∧ q.2 ≤ 1112064 := fun q hq => by
  have := h.pos q hq; have := h2 q hq; omega
theorem ok_pcs (l : List Pc) : ∀ q ∈ pcs l, 0 ≤ q.1 ∧ q.1 < q.2 ∧ q.2 ≤ 1112064 := ok_of (pcs_nf l) (pcs_bd l)
theorem ok_cpl (l : List Pc) : ∀ q ∈ cpl 0 (pcs l), 0 ≤ q.1 ∧ q.1 < q.2 ∧ q.2 ≤ 1112064 := ok_of (nt_pcs l).1 (nt_pcs l).2.1
def stepNZ (s : List Pc × Int) (p : Pc) : List Pc × Int := (if s.2 < p.1 then s.1 ++ [(s.2, p.1)] else s.1, p.2)
def endNZ (s : List Pc × Int) : List Pc := if s.2 < 1112064 then s.1 ++ [(s.2, 1112064)] else s.1
theorem cpl_foldZ : ∀ (P : List Pc) (Q : List Pc) (f : Int), endNZ (P.foldl stepNZ (Q, f)) = Q ++ cpl f P
  | [], Q, f => by
    show (if f < 1112064 then Q ++ [(f, 1112064)] else Q) = Q ++ (if f < 1112064 then [(f, 1112064)] else [])
    by_cases h : f < 1112064 <;> simp [h]
  | p :: P, Q, f => by
    rw [List.foldl_cons, show stepNZ (Q, f) p = (if f < p.1 then Q ++ [(f, p.1)] else Q, p.2) from rfl, cpl_foldZ P]
    simp only [cpl]
    split <;> simp
theorem fold_lenZ : ∀ (P : List Pc) (s : List Pc × Int), (P.foldl stepNZ s).1.length ≤ s.1.length + P.length
  | [], s => by simp
  | p :: P, s => by
    have := fold_lenZ P (stepNZ s p)
    have h2 : (stepNZ s p).1.length ≤ s.1.length + 1 := by unfold stepNZ; split <;> simp
    rw [List.foldl_cons]; simp only [List.length_cons]; omega
theorem fold_takeZ (P : List Pc) (s : List Pc × Int) (k : Nat) (h : k < P.length) : (P.take (k + 1)).foldl stepNZ s = stepNZ ((P.take k).foldl stepNZ s) (P.getD k (0, 0)) := by
  rw [take_one P (0, 0) k h, List.foldl_append]; rfl
end Ru
open Ru
theorem i32_rngs {P : List Pc} (h : ∀ q ∈ P, 0 ≤ q.1 ∧ q.1 < q.2 ∧ q.2 ≤ 1112064) : i32s (rngs P) := by
  intro p hp
  obtain ⟨q, hq, rfl⟩ := List.mem_map.1 hp
  have := h q hq
  have h1 := vlu_range (p := q.1) (by omega) (by omega)
  have h2 := vlu_range (p := q.2 - 1) (by omega) (by omega)
  simp only; omega
theorem i32_nrm (l : List Pc) : i32s (nrm l) := i32_rngs (ok_pcs l)
theorem i32_nt (l : List Pc) : i32s (nt l) := i32_rngs (ok_cpl l)
theorem i32_append {a b : List Pc} (ha : i32s a) (hb : i32s b) : i32s (a ++ b) := fun p hp => (List.mem_append.1 hp).elim (ha p) (hb p)

theorem norm_any (l : List Pc) (v : Value) (w : World) (hr : Row w v l.length (flatK .i32 l)) (hz : i32s l) (hn : l.length ≤ 100000) :
    Calls Tryz.prog 17 #[v] w fun e w' => ∃ u, e = .returned u ∧ w'.ownsRow w.heap.size 29 2 u (nrm l).length (flatK .i32 (nrm l)) ∧ Below w.heap.size w w' := by
  have hle := pcs_le l
  have hok := ok_pcs l
  go_enter Tryz.func17, Tryz.ntmps17
  go_wp2_with fail
  refine (pieces_any l v _ hr hz hn).mono ?_
  rintro e w1 ⟨u1, rfl, hown1, hb1⟩
  go_wp2_with fail
  refine (ranges_any (pcs l) u1 _ (Row.owned hown1) (by omega) hok).mono ?_
  rintro e w2 ⟨u2, rfl, hown2, hb2⟩
  go_wp2
  go_ret
  exact ⟨_, rfl, owns_base hown2 hb1.size, bel_then hb1 hb2⟩

/-- Not's two captured variables: blocks qf (from) and qo (out) -/
def NotS (w : World) (b qf qo : Nat) (s : List Pc × Int) : Prop :=
  qf < b ∧ qo < b ∧ qf ≠ qo ∧ b ≤ w.heap.size ∧ w.heap[qf]? = some (.cells #[.int .i64 s.2] 3 (0, 0)) ∧
    ∃ v, w.heap[qo]? = some (.cells #[v] 50 (0, 0)) ∧ w.ownsRow b 52 2 v s.1.length (flatK .i64 s.1)
theorem NotS.below {w w' : World} {b qf qo : Nat} {s : List Pc × Int} (h : NotS w b qf qo s) (hb : Below w.heap.size w w') : NotS w' b qf qo s := by
  obtain ⟨h1, h2, h3, h4, h5, v, h6, h7⟩ := h
  exact ⟨h1, h2, h3, Nat.le_trans h4 hb.size, by rw [hb.block qf (by omega)]; exact h5, v, by rw [hb.block qo (by omega)]; exact h6, owns_below h7 hb⟩
theorem NotS.from_ {w : World} {b qf qo : Nat} {s : List Pc × Int} (h : NotS w b qf qo s) (f : Int) : NotS (w.setCell ⟨qf, 0, none⟩ (.int .i64 f)) b qf qo (s.1, f) := by
  obtain ⟨h1, h2, h3, h4, h5, v, h6, h7⟩ := h
  exact ⟨h1, h2, h3, by simpa using h4, setc h5 _, v, by rw [Below.heap_setCell _ _ _ _ (fun e => h3 e.symm)]; exact h6, ownsRow_setCell_below h7 (by simpa using h1) _⟩

set_option maxHeartbeats 1000000 in
set_option maxRecDepth 1000000 in
theorem upTo_any (b qf qo : Nat) (s : List Pc × Int) (to : Int) (w : World) (hM : NotS w b qf qo s) (hl : s.1.length ≤ 1000000) :
    Calls Tryz.prog 20 #[.int .i64 to, .pointer (some ⟨qf, 0, none⟩), .pointer (some ⟨qo, 0, none⟩)] w fun e w' =>
      e = .returned (.tuple #[]) ∧ NotS w' b qf qo (if s.2 < to then s.1 ++ [(s.2, to)] else s.1, s.2) ∧ But w w' b qf qo ∧ ∀ g o, w.heap[g]? = some o → g ≠ qo → (∀ v, w.heap[qo]? = some (.cells #[v] 50 (0, 0)) → v.ownBlock ≠ some g) → w'.heap[g]? = some o := by
  obtain ⟨i0, hi, hz0, hz1, hz2⟩ := infoPiece
  have hM0 := hM
  obtain ⟨ha, ho, hne, hb, hA, v, hO, hown⟩ := hM
  have hne' : ¬ qo = qf := fun e => hne e.symm
  obtain ⟨cA, fA⟩ := cell1_of hA
  obtain ⟨cO, fO⟩ := cell1_of hO
  obtain ⟨Q, f⟩ := s
  simp only at hl hA hown cA ⊢
  have hqf : qf < w.heap.size := by omega
  have hqo : qo < w.heap.size := by omega
  by_cases h : f < to
  · rw [if_pos h]
    have HH := Lib.hid (And.intro hA (And.intro hO hown))
    clear hA hO hM0
    go_enter Tryz.func20, Tryz.ntmps20
    go_wp2_with (at_builtin; refine wpList_append_row _ rfl _ _ 50 rfl b 52 i0 (.agg #[.int .i64 0, .int .i64 0]) 2 16 Tryz.underlying50 hi hz0 hz1 hz2 rfl (by decide) _ _ _ rfl (hown.alloc _) _ 1 [.int .i64 f, .int .i64 to] rfl (rowNew2Z _ _ _ _ w.heap.size rfl) rfl (by simp [Value.oneCell']) (by unfold maxLen; omega) (by omega) (by simp; omega) ?_; intro v' w1 hown1 hg1; obtain ⟨o2, c2, rfl⟩ := owns_slice hown1; have gO : w1.heap[qo]? = some (.cells #[v] 50 (0, 0)) := (by rw [hg1.block qo (by simp; omega) (fun e => by have := (hown.lt qo e.symm).1; omega), Below.heap_alloc _ _ _ hqo]; exact HH.out.2.1); have cO' := (cell1_of gO).1; have fO' := (cell1_of gO).2; have H1 := Lib.hid (And.intro gO (And.intro hg1 hown1)); clear gO hg1 hown1)
    go_end0
    obtain ⟨hA, hO, hown⟩ := HH.out
    obtain ⟨gO, hg1, hown1⟩ := H1.out
    have hs := hg1.size
    simp at hs
    refine ⟨rfl, ⟨ha, ho, hne, by simp; omega, ?_, .slice o2 (Q.length + 1) c2, ?_, ?_⟩, ?_, ?_⟩
    · rw [Below.heap_setCell _ _ _ _ hne, hg1.block qf (by simp; omega) (fun e => by have := (hown.lt qf e.symm).1; omega), Below.heap_alloc _ _ _ hqf]; exact hA
    · exact setc gO _
    · have h := ownsRow_setCell_below hown1 (a := ⟨qo, 0, none⟩) (by simpa using ho) (.slice o2 (Q.length + 1) c2)
      rw [List.length_append, flatK_append]
      exact h
    · exact (((But.of (Below.refl b w)).alloc hb _).grown hg1 (by simp; omega) (fun j hj => (hown.lt j hj).1)).setO _
    · intro g o hgo hgn hv
      have hgl := (Array.getElem?_eq_some_iff.1 hgo).1
      rw [Below.heap_setCell _ _ _ _ hgn, hg1.block g (by simp; omega) (fun e => hv v hO e.symm), Below.heap_alloc _ _ _ hgl]
      exact hgo
  · rw [if_neg h]
    clear hown hA hO
    go_enter Tryz.func20, Tryz.ntmps20
    go_wp2
    go_end0
    exact ⟨rfl, hM0, But.of (Below.refl _ _), fun g o hg _ _ => hg⟩
theorem But.low {w1 w2 : World} {b qa qo n : Nat} (h : But w1 w2 b qa qo) (hn : n ≤ b) (h1 : n ≤ qa) (h2 : n ≤ qo) : Below n w1 w2 := ⟨h.os, h.tape, h.output, h.size, fun k hk => h.block k (by omega) (by omega) (by omega)⟩

set_option maxHeartbeats 1000000 in
set_option maxRecDepth 1000000 in
theorem not_any (l : List (Int × Int)) (v : Value) (w : World) (hr : Row w v l.length (flatK .i32 l)) (hz : i32s l) (hn : l.length ≤ 100000) :
    Calls Tryz.prog 8 #[v] w fun e w' => ∃ u, e = .returned u ∧ w'.ownsRow w.heap.size 29 2 u (nt l).length (flatK .i32 (nt l)) ∧ Below w.heap.size w w' := by
  have hle := pcs_le l
  have hok := ok_pcs l
  have hmf : ∀ (fn : Fn) (first cap : Array Value) (w : World), (Instr.makeFunc fn first cap).run Tryz.prog w = .ok (.func fn first cap) w := fun _ _ _ _ => rfl
  go_enter Tryz.func8, Tryz.ntmps8
  go_wp2_with fail
  refine (pieces_any l v _ (hr.below (by repeat (first | exact Below.refl _ _ | assumption | (refine Below.drew ?_) | (refine below_drewN ?_ _) | (refine bel_new ?_ _) | (refine bel_then ?_ (by assumption))))) hz hn).mono ?_
  rintro e w1 ⟨u1, rfl, hown1, hb1⟩
  obtain ⟨o1, c1, rfl⟩ := owns_slice hown1
  have hqf : w1.heap[w.heap.size + 1]? = some (.cells #[.int .i64 0] 3 (0, 0)) := by
    rw [hb1.block _ (by simp)]
    have := heap_alloc_new (w.alloc (Obj.cells #[Value.slice none 0 0] 50)) (Obj.cells #[Value.int .i64 0] 3)
    simpa using this
  have hqo : w1.heap[w.heap.size]? = some (.cells #[.slice none 0 0] 50 (0, 0)) := by
    rw [hb1.block _ (by simp; omega), Below.heap_alloc _ _ _ (by simp)]
    exact heap_alloc_new w _
  have hs1 := hb1.size
  simp at hs1
  have hS : NotS w1 w1.heap.size (w.heap.size + 1) w.heap.size ([], 0) := ⟨by omega, by omega, by omega, Nat.le_refl _, hqf, _, hqo, World.ownsRow_nil _ _ _ _⟩
  have hB1 : Below w.heap.size w w1 := bel_then (by repeat (first | exact Below.refl _ _ | assumption | (refine Below.drew ?_) | (refine below_drewN ?_ _) | (refine bel_new ?_ _) | (refine bel_then ?_ (by assumption)))) hb1
  obtain ⟨P, hP⟩ : ∃ P, P = pcs l := ⟨_, rfl⟩
  rw [← hP] at hle hok hown1 ⊢
  have HR := Lib.hid (And.intro (Row.owned hown1) (fun g h => hown1.lt g h))
  have HB := Lib.hid (And.intro hB1 hP)
  have Hok := Lib.hid hok
  obtain ⟨b, hb⟩ : ∃ b, b = w1.heap.size := ⟨_, rfl⟩
  rw [← hb] at hS hs1
  obtain ⟨n0, hn0⟩ : ∃ n0, n0 = w.heap.size := ⟨_, rfl⟩
  rw [← hn0] at hS hs1 ⊢
  have HN := Lib.hid (And.intro hb hn0)
  have hPn : P.length ≤ 100000 := by omega
  clear hqf hqo hb1 hown1 hB1 hP hok hb hn0
  go_wp2_with fail
  go_loopw [12] (fun i wr => ∃ k : Nat, k ≤ P.length ∧ i = .int .i64 k ∧ NotS wr b (n0 + 1) n0 ((P.take k).foldl stepNZ ([], 0)) ∧ But w1 wr b (n0 + 1) n0)
    (fun i _ => P.length - (intOf i).toNat)
  case atStart => exact ⟨0, Nat.zero_le _, rfl, hS, But.of (Below.refl _ _)⟩
  case round =>
    obtain ⟨k, hk, rfl, hS, hbut⟩ := hrel
    have hfl := fold_lenZ (P.take k) ([], 0)
    rw [List.length_take] at hfl
    simp only [List.length_nil, Nat.zero_add] at hfl
    by_cases hk2 : k < P.length
    · obtain ⟨g, off, cap', e, hlt⟩ := HR.out.1.head (by omega)
      simp only [Value.slice.injEq, true_and] at e
      obtain ⟨rfl, rfl⟩ := e
      obtain ⟨_, c1, c2⟩ := HR.out.1.pair hk2 rfl
      have hg := HR.out.2 g rfl
      have hgw : wr.heap[g]? = w1.heap[g]? := hbut.block g (by rw [HN.out.1]; exact hg.2) (by have := HN.out.2; simp at hg; omega) (by have := HN.out.2; simp at hg; omega)
      rw [← World.cell?_of_block (a := ⟨g, off + k * 2, none⟩) hgw] at c1
      rw [← World.cell?_of_block (a := ⟨g, off + k * 2 + 1, none⟩) hgw] at c2
      have hs := fold_takeZ P ([], 0) k hk2
      obtain ⟨q, hq⟩ : ∃ q, q = P.getD k (0, 0) := ⟨_, rfl⟩
      rw [← hq] at c1 c2 hs
      obtain ⟨s, hs0⟩ : ∃ s, s = (P.take k).foldl stepNZ ([], 0) := ⟨_, rfl⟩
      rw [← hs0] at hs hS hfl
      obtain ⟨lo, hi'⟩ := q
      simp only at c1 c2
      have Hs := Lib.hid (And.intro hs (And.intro hs0 hq))
      have hbs : b ≤ wr.heap.size := hS.2.2.2.1
      have hS2 := hS.below (bel_new (Below.refl _ _) (.cells #[.int .i64 lo, .int .i64 hi'] 52))
      have hbut2 := hbut.alloc hbs (.cells #[.int .i64 lo, .int .i64 hi'] 52)
      have HS := Lib.hid (And.intro hS2 hbut2)
      clear hs hs0 hq hgw hg hbut hS2 hbut2
      go_wp2_with fail
      refine (upTo_any b (n0 + 1) n0 s lo _ HS.out.1 (by omega)).mono ?_
      rintro e w2 ⟨rfl, hS3, hbut3, hfr⟩
      have hn : n0 + 1 < w2.heap.size := by have := hS3.1; have := hS3.2.2.2.1; omega
      have c5 := hfr wr.heap.size _ (heap_alloc_new wr (.cells #[.int .i64 lo, .int .i64 hi'] 52)) (by have := hS.2.1; omega) (by
        intro v hv e
        obtain ⟨_, hob, _, _, _, v', hv', hown'⟩ := hS
        rw [Below.heap_alloc _ _ _ (by omega), hv'] at hv
        simp only [Option.some.injEq, Obj.cells.injEq, Array.mk.injEq, List.cons.injEq, and_true] at hv
        subst hv
        have := (hown'.lt _ e).2; omega)
      have c6 : w2.cell? ⟨wr.heap.size, 1, none⟩ = some (.int .i64 hi') := by simp [World.cell?, c5]
      obtain ⟨cF, fF⟩ := cell1_of hS3.2.2.2.2.1
      have hS4 := hS3.from_ hi'
      have hbut4 := (HS.out.2.trans hbut3).setA (i := 0) (.int .i64 hi')
      have H4 := Lib.hid (And.intro hS4 hbut4)
      clear hS hS3 hbut3 hfr c5 hS4 hbut4
      go_wp2
      go_roundw
      case rel => exact ⟨k + 1, by omega, by go_num, by rw [Hs.out.1]; exact H4.out.1, H4.out.2⟩
      case measure => simp [intOf] <;> omega
    · have hkn : k = P.length := by omega
      subst hkn
      rw [List.take_length] at hS hfl
      obtain ⟨s, hs0⟩ : ∃ s, s = P.foldl stepNZ ([], 0) := ⟨_, rfl⟩
      rw [← hs0] at hS hfl
      have hend : endNZ s = cpl 0 P := by rw [hs0, cpl_foldZ]; rfl
      have Hs := Lib.hid (And.intro hend hs0)
      have HU := Lib.hid hbut
      clear hend hs0 hbut
      go_wp2_with fail
      refine (upTo_any b (n0 + 1) n0 s 1112064 _ hS (by omega)).mono ?_
      rintro e w2 ⟨rfl, hS3, hbut3, _⟩
      rw [show (if s.2 < 1112064 then s.1 ++ [(s.2, 1112064)] else s.1) = endNZ s from rfl, Hs.out.1] at hS3
      obtain ⟨_, _, _, hb2, _, v, hO, hown⟩ := hS3
      obtain ⟨cO, fO⟩ := cell1_of hO
      have hcl := cpl_le P 0
      have hlow : Below w.heap.size w w2 := by
        have h1 := (HU.out.trans hbut3).low (n := w.heap.size) (by rw [HN.out.1]; exact HB.out.1.size) (by rw [HN.out.2]; omega) (by rw [HN.out.2]; omega)
        exact HB.out.1.trans h1
      obtain ⟨Q, hQ⟩ : ∃ Q, Q = cpl 0 P := ⟨_, rfl⟩
      have hqok : ∀ q ∈ Q, 0 ≤ q.1 ∧ q.1 < q.2 ∧ q.2 ≤ 1112064 := by rw [hQ, HB.out.2]; exact ok_cpl l
      rw [← hQ] at hown hcl
      have HQ := Lib.hid hQ
      have HW := Lib.hid (And.intro hlow hqok)
      have hR := Row.owned hown
      clear hQ hlow hqok hbut3 hown hS
      go_wp2_with fail
      refine (ranges_any Q v _ hR (by omega) HW.out.2).mono ?_
      rintro e w3 ⟨u3, rfl, hown3, hb3⟩
      go_wp2
      go_ret
      refine ⟨_, rfl, ?_, bel_then HW.out.1 hb3⟩
      have e : nt l = rngs Q := by unfold nt; rw [HQ.out, HB.out.2]
      rw [e]
      exact owns_base hown3 HW.out.1.size
end Go.Proofs.YtkngppkchaadhaaGreat
