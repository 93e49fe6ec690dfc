/- word: rest. -/
import Derived.Test.YtkngppkchaadhaaClsJoin
set_option linter.unusedVariables false
set_option linter.unusedSimpArgs false
namespace Go.Proofs.Ytkngppkchaadhaa
open Go.RowKit Ru

namespace Ru
def stepN (s : List Pc × Int) (p : Pc) : List Pc × Int := (if s.2 < p.1 then s.1 ++ [(s.2, p.1)] else s.1, p.2)
def endN (s : List Pc × Int) : List Pc := if s.2 < 1112064 then s.1 ++ [(s.2, 1112064)] else s.1
theorem cpl_fold : ∀ (P : List Pc) (Q : List Pc) (f : Int), endN (P.foldl stepN (Q, f)) = Q ++ cpl f P
  | [], Q, f => by
    show (if f < 1112064 then Q ++ [(f, 1112064)] else Q) = Q ++ (if f < 1112064 then [(f, 1112064)] else [])
    by_cases h : f < 1112064 <;> simp [h]
  | p :: P, Q, f => by
    rw [List.foldl_cons, show stepN (Q, f) p = (if f < p.1 then Q ++ [(f, p.1)] else Q, p.2) from rfl, cpl_fold P]
    simp only [cpl]
    split <;> simp
theorem fold_len : ∀ (P : List Pc) (s : List Pc × Int), (P.foldl stepN s).1.length ≤ s.1.length + P.length
  | [], s => by simp
  | p :: P, s => by
    have := fold_len P (stepN s p)
    have h : (stepN s p).1.length ≤ s.1.length + 1 := by unfold stepN; simp only; split <;> simp
    simp only [List.foldl_cons, List.length_cons]; omega
theorem fold_take (P : List Pc) (s : List Pc × Int) (k : Nat) (h : k < P.length) : (P.take (k + 1)).foldl stepN s = stepN ((P.take k).foldl stepN s) (P.getD k (0, 0)) := by
  rw [take_one P (0, 0) k h, List.foldl_append]; rfl
theorem fold_snd (P : List Pc) (k : Nat) (hp : ∀ q ∈ P, 0 ≤ q.1 ∧ q.1 < q.2 ∧ q.2 ≤ 1112064) : 0 ≤ ((P.take k).foldl stepN ([], 0)).2 ∧ ((P.take k).foldl stepN ([], 0)).2 ≤ 1112064 := by
  rcases List.eq_nil_or_concat (P.take k) with h | ⟨A, q, h⟩
  · rw [h]; simp
  · rw [h, List.concat_eq_append, List.foldl_append]
    have hq := hp q (List.mem_of_mem_take (by rw [h]; simp : q ∈ P.take k))
    simp only [List.foldl_cons, List.foldl_nil, stepN]
    omega
theorem vlu_lt {p q : Int} : p < q ↔ vlu p < vlu q := by
  have := vlu_mono (p := q) (q := p)
  omega
end Ru
def RestPost (P : List Pc) (w : World) (e : Ending) (w' : World) : Prop :=
  ∃ u, e = .returned u ∧ w'.ownsRow w.heap.size 43 2 u (cpl 0 P).length (flatK .i32 (rngs (cpl 0 P))) ∧ Below w.heap.size w w'

set_option maxHeartbeats 4000000 in
set_option maxRecDepth 1000000 in
theorem rest_any (P : List Pc) (v : Value) (w : World) (hr : Row w v P.length (flatK .i32 (rngs P))) (hn : P.length ≤ 100000) (hp : ∀ q ∈ P, 0 ≤ q.1 ∧ q.1 < q.2 ∧ q.2 ≤ 1112064) :
    Calls Try.prog 25 #[v] w (RestPost P w) := by
  obtain ⟨i0, hi, hz0, hz1, hz2⟩ := infoRange
  have HR := Lib.hid hr
  have HP := Lib.hid hp
  obtain ⟨o, cap, rfl, hcap, hmax, _⟩ := hr
  clear hp
  go_enter Try.func25, Try.ntmps25
  go_wp2_with fail
  go_loopw [3, 4, 9] (fun u f i wr => ∃ k : Nat, k ≤ P.length ∧ i = .int .i64 k ∧ f = .int .i32 (vlu ((P.take k).foldl stepN ([], 0)).2) ∧ wr.ownsRow w.heap.size 43 2 u ((P.take k).foldl stepN ([], 0)).1.length (flatK .i32 (rngs ((P.take k).foldl stepN ([], 0)).1)) ∧ Below w.heap.size w wr)
    (fun _ _ i _ => P.length - (intOf i).toNat)
  case atStart => exact ⟨0, Nat.zero_le _, rfl, rfl, World.ownsRow_nil _ _ _ _, Below.refl _ _⟩
  case round =>
    obtain ⟨k, hk, rfl, rfl, hown, hbel⟩ := hrel
    obtain ⟨wo, rfl⟩ : ∃ wo : World, wo = wr := ⟨_, rfl⟩
    have hfl := fold_len (P.take k) ([], 0)
    have hfs := fold_snd P k HP.out
    rw [List.length_take, List.length_nil, Nat.zero_add] at hfl
    have hmin := Nat.min_le_right k P.length
    by_cases hk2 : k < P.length
    · obtain ⟨b, off, cap', e, hlt⟩ := HR.out.head (by omega)
      simp only [Value.slice.injEq, true_and] at e
      obtain ⟨rfl, rfl⟩ := e
      obtain ⟨_, c1, c2⟩ := HR.out.pair (by rw [rngs_len]; exact hk2) (rngs_len P).symm
      have hg : (rngs P).getD k (0, 0) = (vlu (P.getD k (0, 0)).1, vlu ((P.getD k (0, 0)).2 - 1)) := by
        simp [rngs, List.getD, List.getElem?_eq_getElem hk2]
      have hft := fold_take P ([], 0) k hk2
      have hq := HP.out (P.getD k (0, 0)) (by simp [List.getD, List.getElem?_eq_getElem hk2])
      rw [hg, ← hbel.cell hlt] at c1 c2
      obtain ⟨S, hS⟩ : ∃ S, S = (P.take k).foldl stepN ([], 0) := ⟨_, rfl⟩
      rw [← hS] at hft hown hfl hfs ⊢
      obtain ⟨Q, f⟩ := S
      obtain ⟨p, hpp⟩ : ∃ p, p = P.getD k (0, 0) := ⟨_, rfl⟩
      rw [← hpp] at hft hq c1 c2
      obtain ⟨pa, pc⟩ := p
      simp only at hft hown hfl hfs hq c1 c2 ⊢
      have hlo := vlu_range (p := pa) (by omega) (by omega)
      have hhi := vlu_range (p := pc - 1) (by omega) (by omega)
      have hlt2 := vlu_lt (p := f) (q := pa)
      have hfb : 0 ≤ vlu f ∧ vlu f ≤ 1114112 := by unfold vlu; split <;> omega
      have hb2 : bhd (vlu (pc - 1)) = vlu pc := by rw [bhd_vlu (by omega)]; congr 1; omega
      have ha2 : f < pa → ahd (vlu pa) = vlu (pa - 1) := fun h => ahd_vlu (by omega)
      obtain ⟨lo, hlo'⟩ : ∃ lo, lo = vlu pa := ⟨_, rfl⟩
      obtain ⟨hi', hhi'⟩ : ∃ hi', hi' = vlu (pc - 1) := ⟨_, rfl⟩
      obtain ⟨fv, hfv⟩ : ∃ fv, fv = vlu f := ⟨_, rfl⟩
      rw [← hlo'] at c1 hlo hlt2 ha2
      rw [← hhi'] at c2 hhi hb2
      rw [← hfv] at hlt2 hfb ⊢
      have hcb := fun w => behind_still hi' w hhi
      have hca := fun w => ahead_still lo w hlo
      rw [hb2] at hcb
      have HCB := Lib.hid hcb
      have HS := Lib.hid (And.intro hS (And.intro hft (And.intro hlo' (And.intro hfv hbel))))
      clear hcb hb2 hS hft hpp hlo' hhi' hfv hg
      obtain ⟨ou, cu, rfl⟩ := owns_slice hown
      by_cases hlt3 : fv < lo
      · have hfa : f < pa := hlt2.2 hlt3
        rw [ha2 hfa] at hca
        have HCA := Lib.hid hca
        clear hca ha2 hlt2
        have hz := hbel.size
        go_wp2_with fail
        refine (HCA.out _).mono ?_
        rintro e w' ⟨rfl, rfl⟩
        go_wp2_with (at_builtin; refine wpList_append_row _ rfl _ _ 29 rfl w.heap.size 43 i0 (.agg #[.int .i32 0, .int .i32 0]) 2 8 Try.underlying29 hi hz0 hz1 hz2 rfl (by decide) (.slice ou Q.length cu) Q.length (flatK .i32 (rngs Q)) rfl ?hown _ 1 [.int .i32 fv, .int .i32 (vlu (pa - 1))] rfl ?hrow rfl ?hone ?h63 ?hby ?hbase ?_)
        case hown => exact (hown.alloc _).alloc _
        case hrow => exact rowNew2 _ _ _ _ _ (by simp)
        case hone => simp [Value.oneCell']
        case h63 => unfold maxLen; omega
        case hby => omega
        case hbase => simp <;> omega
        intro v' w2 hown2 hgrow2
        have hx0 : w2.cell? ⟨wo.heap.size, 1, none⟩ = some (.int .i32 hi') := by
          have hb := hgrow2.block wo.heap.size (by simp <;> omega) (fun e => by have := (hown.lt _ e.symm).2; omega)
          unfold World.cell?
          rw [hb, Below.heap_alloc _ _ _ (by simp), heap_alloc_new]; rfl
        have hB2 : Below w.heap.size w w2 := ((hbel.alloc hz _).alloc (by simp <;> omega) _).grown hgrow2 (by simp <;> omega) (fun j hj => (hown.lt j hj).1)
        have H2 := Lib.hid (And.intro hown2 hB2)
        obtain ⟨o2, c2', rfl⟩ := owns_slice hown2
        clear hown2 hB2 hgrow2 hown hbel c1 c2
        go_wp2_with fail
        refine (HCB.out _).mono ?_
        rintro e w' ⟨rfl, rfl⟩
        go_wp2
        go_roundw
        case rel =>
          obtain ⟨k1, k2, k3, k4, k5⟩ := HS.out
          refine ⟨k + 1, by omega, by go_num, by rw [k2]; rfl, ?_, H2.out.2⟩
          rw [k2]
          simp only [stepN, if_pos hfa]
          have h := H2.out.1
          rw [rngs_append, flatK_append, List.length_append, show (rngs [(f, pa)]) = [(fv, vlu (pa - 1))] by rw [k4]; rfl]
          exact h
        case measure => simp [intOf] <;> omega
      · have hfa : ¬ f < pa := fun h => hlt3 (hlt2.1 h)
        have HO := Lib.hid (And.intro hown hbel)
        have hz := hbel.size
        clear hca ha2 hlt2 hown hbel
        go_wp2_with fail
        refine (HCB.out _).mono ?_
        rintro e w' ⟨rfl, rfl⟩
        go_wp2
        go_roundw
        case rel =>
          obtain ⟨k1, k2, k3, k4, k5⟩ := HS.out
          refine ⟨k + 1, by omega, by go_num, by rw [k2]; rfl, ?_, bel_new HO.out.2 _⟩
          rw [k2]
          simp only [stepN, if_neg (Int.not_lt.2 hfa)]
          exact HO.out.1.alloc _
        case measure => simp [intOf] <;> omega
    · have hkn : k = P.length := by omega
      subst hkn
      clear hfl hmin
      have hcf := cpl_fold P [] 0
      rw [List.take_length] at hown hfs ⊢
      have hfl := fold_len P ([], 0)
      rw [List.length_nil, Nat.zero_add] at hfl
      obtain ⟨S, hS⟩ : ∃ S, S = P.foldl stepN ([], 0) := ⟨_, rfl⟩
      rw [← hS] at hcf hown hfl hfs ⊢
      obtain ⟨Q, f⟩ := S
      simp only [List.nil_append] at hown hfl hfs hcf ⊢
      have hlt2 := vlu_lt (p := f) (q := 1112064)
      rw [show vlu 1112064 = 1114112 from rfl] at hlt2
      have hfb : 0 ≤ vlu f ∧ vlu f ≤ 1114112 := by unfold vlu; split <;> omega
      obtain ⟨fv, hfv⟩ : ∃ fv, fv = vlu f := ⟨_, rfl⟩
      rw [← hfv] at hlt2 hfb ⊢
      have HF := Lib.hid (And.intro hcf hfv)
      clear hcf hfv hS
      obtain ⟨ou, cu, rfl⟩ := owns_slice hown
      have hz := hbel.size
      by_cases hend : fv ≤ 1114111
      · have hfa : f < 1112064 := hlt2.2 (by omega)
        clear hlt2
        go_wp2_with (at_builtin; refine wpList_append_row _ rfl _ _ 29 rfl w.heap.size 43 i0 (.agg #[.int .i32 0, .int .i32 0]) 2 8 Try.underlying29 hi hz0 hz1 hz2 rfl (by decide) (.slice ou Q.length cu) Q.length (flatK .i32 (rngs Q)) rfl ?hown _ 1 [.int .i32 fv, .int .i32 1114111] rfl ?hrow rfl ?hone ?h63 ?hby ?hbase ?_)
        case hown => exact hown.alloc _
        case hrow => exact rowNew2 _ _ _ _ _ (by simp)
        case hone => simp [Value.oneCell']
        case h63 => unfold maxLen; omega
        case hby => omega
        case hbase => simp <;> omega
        intro v' w2 hown2 hgrow2
        have hB2 : Below w.heap.size w w2 := (hbel.alloc hz _).grown hgrow2 (by simp <;> omega) (fun j hj => (hown.lt j hj).1)
        have H2 := Lib.hid (And.intro hown2 hB2)
        obtain ⟨o2, c2', rfl⟩ := owns_slice hown2
        clear hown2 hB2 hgrow2 hown hbel
        go_wp2
        go_ret
        refine ⟨_, rfl, ?_, H2.out.2⟩
        rw [← HF.out.1]
        simp only [endN, if_pos hfa]
        have h := H2.out.1
        rw [rngs_append, flatK_append, List.length_append, show (rngs [(f, 1112064)]) = [(fv, 1114111)] by rw [HF.out.2]; rfl]
        exact h
      · have hfa : ¬ f < 1112064 := fun h => by have := hlt2.1 h; omega
        have HO := Lib.hid (And.intro hown hbel)
        clear hlt2 hown hbel
        go_wp2
        go_ret
        refine ⟨.slice ou Q.length cu, rfl, ?_, HO.out.2⟩
        rw [← HF.out.1]
        simp only [endN, if_neg (Int.not_lt.2 hfa)]
        exact HO.out.1
end Go.Proofs.Ytkngppkchaadhaa
