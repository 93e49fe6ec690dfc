/- nfa.Build of a list that it takes. -/
import Derived.Test.YtmgfpcblbbpahaaGreatNfBldA
import Derived.Laws.OwnMore
import Derived.Deep.RegionHeld3
set_option linter.unusedVariables false
set_option linter.unusedSimpArgs false
namespace Go.Proofs.YtmgfpcblbbpahaaGreat
open Go.RowKit Ru

def Nf.takes (l : List RE) : Bool := decide (1 ≤ l.length) && decide (l.length ≤ 16) && l.all RE.may
set_option maxHeartbeats 1000000 in
set_option maxRecDepth 100000 in
theorem build_bad (e : RE) (sv lv : Value) (w : World) (hr : ReIs w e sv lv) (hf : e.Fit) (hbad : Nf.takes e.parts = false) :
    Calls Tryz.prog 8 #[lv] w fun x w' => x = .returned (.tuple #[.pointer none, .int .i64 1]) ∧ Below w.heap.size w w' := by
  have hc := badL_any e sv lv w hr hf
  obtain ⟨o2, q2, c1, c2, rfl, hall⟩ := hr.all
  have hlen := hf.sets.2.2
  by_cases h1 : (e.parts.length : Int) < 1
  · clear hall hr hf hc hbad
    go_enter Tryz.func8, Tryz.ntmps8
    go_wp2_with fail
    go_ret2
    exact ⟨rfl, Below.refl _ _⟩
  · by_cases h2 : (16 : Int) < (e.parts.length : Int)
    · clear hall hr hf hc hbad
      go_enter Tryz.func8, Tryz.ntmps8
      go_wp2_with fail
      go_ret2
      exact ⟨rfl, Below.refl _ _⟩
    · have hany : (e.parts.any fun p => !p.may) = true := by
        have h3 : e.parts.all RE.may = false := by
          unfold Nf.takes at hbad
          rw [decide_eq_true (show 1 ≤ e.parts.length by omega), decide_eq_true (show e.parts.length ≤ 16 by omega)] at hbad
          simpa using hbad
        rw [List.all_eq_not_any_not] at h3
        simpa using h3
      rw [hany] at hc
      have HC := Lib.hid hc
      clear hall hr hf hc hbad hany
      go_enter Tryz.func8, Tryz.ntmps8
      go_wp2_with (go_at_call 26; refine HC.out.mono ?_; rintro x w' ⟨rfl, hb⟩)
      go_ret2
      exact ⟨rfl, hb⟩
end Go.Proofs.YtmgfpcblbbpahaaGreat

namespace Go.Proofs.YtmgfpcblbbpahaaGreat
open Go.RowKit Ru

namespace Nf
def mS (l : List RE) : List (List Pc) := [] :: stsL l
def mB (l : List RE) : BS := bl l (b0 (1 + (stsL l).length))
def mF (l : List RE) : List (List Int) := (mB l).F.map ordL
def mE (l : List RE) : List (List Int) := (mB l).E
theorem sts_fit : ∀ (N : Nat) (e : RE), e.size ≤ N → e.prt = true → e.Fit → ∀ s ∈ sts e, i32s s ∧ s.length ≤ 1000 := by
  intro N
  induction N with
  | zero => intro e h; have := e.size_pos; omega
  | succ N ih =>
    intro e h hp hf
    have hfs := hf.sets
    cases e with
    | mk k s l =>
      rw [RE.size_mk] at h
      rw [sts_mk]
      rcases prt_cases hp with ⟨rfl, rfl⟩ | ⟨rfl, rfl⟩ | ⟨rfl, rfl, _⟩ | ⟨rfl, a, rfl, ha⟩ | ⟨hk, a, b, rfl, ha, hb⟩
      · simp [stsL_nil]
      · simp [stsL_nil]
      · intro q hq
        rw [if_pos rfl, stsL_nil, List.mem_singleton] at hq
        subst hq
        exact ⟨hfs.1, hfs.2.1⟩
      · rw [RE.sizes_cons, RE.sizes_nil] at h
        have := ih a (by omega) ha (hf.part (i := 0) rfl)
        simpa [stsL_cons, stsL_nil] using this
      · rw [RE.sizes_cons, RE.sizes_cons, RE.sizes_nil] at h
        have h1 := ih a (by omega) ha (hf.part (i := 0) rfl)
        have h2 := ih b (by omega) hb (hf.part (i := 1) rfl)
        have k2 : ¬ k = 2 := by omega
        intro q hq
        rw [if_neg k2, stsL_cons, stsL_cons, stsL_nil, List.append_nil, List.mem_append] at hq
        exact hq.elim (h1 q) (h2 q)
theorem stsL_fit (l : List RE) (h : ∀ e ∈ l, e.prt = true ∧ e.Fit) : ∀ s ∈ stsL l, i32s s ∧ s.length ≤ 1000 := by
  induction l with
  | nil => rw [stsL_nil]; simp
  | cons e l ih =>
    intro s hs
    rw [stsL_cons, List.mem_append] at hs
    rcases hs with hs | hs
    · exact sts_fit e.size e (Nat.le_refl _) (h e (by simp)).1 (h e (by simp)).2 s hs
    · exact ih (fun e he => h e (by simp [he])) s hs
end Nf
theorem infoInts : ∃ i, Tryz.prog.info? 23 = some i ∧ i.zero = some (.slice none 0 0) ∧ i.size = 1 ∧ i.bytes = 24 := info_parts (by kernel_rfl)
set_option maxRecDepth 100000 in
set_option maxHeartbeats 4000000 in
theorem build_any (e : RE) (sv lv : Value) (w : World) (hr : ReIs w e sv lv) (hf : e.Fit) (ht : Nf.takes e.parts = true) :
    Calls Tryz.prog 8 #[lv] w fun x w' => ∃ pb so fo eo co sc fc ec cc ss fs es, x = .returned (.tuple #[.pointer (some ⟨pb, 0, none⟩), .int .i64 0]) ∧
      NIs w' pb (Nf.mS e.parts) (Nf.mF e.parts) (Nf.mE e.parts) (cutsF (Nf.mS e.parts)) so fo eo co sc fc ec cc ss fs es ∧ Below w.heap.size w w' ∧ w.heap.size ≤ pb := by
  obtain ⟨ii, hi0, hi1, hi2, hi3⟩ := infoRow
  obtain ⟨ij, hj0, hj1, hj2, hj3⟩ := infoInts
  have hbad := badL_any e sv lv w hr hf
  obtain ⟨l, hl⟩ : ∃ l, l = e.parts := ⟨_, rfl⟩
  have hall1 : 1 ≤ l.length ∧ l.length ≤ 16 ∧ ∀ p ∈ l, p.may = true := by
    unfold Nf.takes at ht
    rw [← hl] at ht
    simp only [Bool.and_eq_true, decide_eq_true_eq] at ht
    exact ⟨ht.1.1, ht.1.2, List.all_eq_true.1 ht.2⟩
  have hany : (e.parts.any fun p => !p.may) = false := by
    rw [List.any_eq_false]
    intro p hp
    rw [← hl] at hp
    rw [hall1.2.2 p hp]; simp
  rw [hany] at hbad
  obtain ⟨o2, q2, c1, c2, rfl, hall⟩ := hr.all
  have hfit : ∀ (i : Nat) (p : RE), l[i]? = some p → p.Fit := fun i p hp => hf.part (by rw [← hl]; exact hp)
  rw [← hl] at hall hbad ⊢
  obtain ⟨hl1, hl16, hmay⟩ := hall1
  have hprt : ∀ p ∈ l, p.prt = true ∧ p.size ≤ 60 := fun p hp => by
    have := (RE.may_iff p).1 (hmay p hp)
    exact ⟨this.2.2, this.1⟩
  have hszl := Nf.stsL_size l hprt
  have n1 : ¬ ((l.length : Int) < 1) := by omega
  have n16 : ¬ ((16 : Int) < (l.length : Int)) := by omega
  have hsf : ∀ q ∈ Nf.mS l, i32s q ∧ q.length ≤ 1000 := by
    intro q hq
    unfold Nf.mS at hq
    rcases List.mem_cons.1 hq with rfl | hq
    · exact ⟨fun p hp => by simp at hp, by simp⟩
    · refine Nf.stsL_fit l (fun p hp => ⟨(hprt p hp).1, ?_⟩) q hq
      obtain ⟨i, hi, rfl⟩ := List.mem_iff_getElem.1 hp
      exact hfit i _ (List.getElem?_eq_getElem hi)
  have HSF := Lib.hid hsf
  clear hsf
  have HBAD := Lib.hid hbad
  have HALL := Lib.hid hall
  have HFIT := Lib.hid hfit
  have HMAY := Lib.hid hmay
  have HPRT := Lib.hid hprt
  clear hbad hall hfit hmay hprt hany hf hr ht hl
  go_enter Tryz.func8, Tryz.ntmps8
  go_wp2_with (go_at_call 26; refine HBAD.out.mono ?_; rintro x w' ⟨rfl, hb⟩)
  obtain ⟨pb, hpb⟩ : ∃ pb, pb = w'.heap.size + 1 := ⟨_, rfl⟩
  obtain ⟨W1, hW1⟩ : ∃ W1, W1 = (w'.alloc (.cells #[.slice none 0 0] 39)).alloc (.cells #[.slice (some ⟨w'.heap.size, 0, none⟩) 1 1, .slice none 0 0, .slice none 0 0, .slice none 0 0] 58) := ⟨_, rfl⟩
  rw [← hW1, ← hpb]
  have hst : B1 w W1 pb (.slice (some ⟨w'.heap.size, 0, none⟩) 1 1) [.slice none 0 0] (Nf.mS (l.take 0)) := by
    have hg0 : W1.heap[w'.heap.size]? = some (.cells #[.slice none 0 0] 39 (0, 0)) := by rw [hW1, Below.heap_alloc _ _ _ (by simp)]; exact heap_alloc_new w' _
    have hbs := hb.size
    refine ⟨bel_then hb (by rw [hW1]; exact bel_new (bel_new (Below.refl _ _) _) _), ?_, by omega, ⟨?_, ?_, fun i hi => ?_⟩⟩
    · rw [hW1, hpb]
      have := heap_alloc_new (w'.alloc (.cells #[.slice none 0 0] 39)) (.cells #[.slice (some ⟨w'.heap.size, 0, none⟩) 1 1, .slice none 0 0, .slice none 0 0, .slice none 0 0] 58)
      rwa [World.size_alloc] at this
    · rw [List.take_zero]; unfold Nf.mS; rw [Nf.stsL_nil]; rfl
    · rw [List.take_zero]; unfold Nf.mS; rw [Nf.stsL_nil]
      exact owns_base (afrow_block (n := 1) (size := 1) hg0 rfl (by decide)) (by omega)
    · rw [List.take_zero]; unfold Nf.mS; rw [Nf.stsL_nil]
      rw [List.take_zero] at hi; unfold Nf.mS at hi; rw [Nf.stsL_nil] at hi
      obtain rfl : i = 0 := by simp at hi; exact hi
      exact World.ownsRow_nil _ _ _ _
  have HST := Lib.hid hst
  have hlow : w.heap.size ≤ pb := HST.out.low
  clear hst hb hW1 hpb
  go_loopg [31] l.length (fun g s31 wx => ∃ k, k + g = l.length ∧ s31 = .int .i64 (k : Int) ∧ ∃ v ss, B1 w wx pb v ss (Nf.mS (l.take k)))
  case atStart => exact ⟨0, by omega, rfl, _, _, HST.out⟩
  case round =>
    obtain ⟨k, hk, rfl, v, ss, hx⟩ := hrel
    have HX := Lib.hid hx
    by_cases hlt : k < l.length
    · obtain ⟨g1, hg1⟩ : ∃ g1, g1 + 1 = gk := ⟨gk - 1, by omega⟩
      obtain ⟨p, hp⟩ : ∃ p, l[k]? = some p := ⟨l[k], List.getElem?_eq_getElem hlt⟩
      obtain ⟨hrp, b, off, rfl, hbl, k0, k1, k3⟩ := HALL.out k p hp
      rw [← hx.bel.cell hbl] at k0
      rw [← hx.bel.cell hbl] at k1
      rw [← hx.bel.cell hbl] at k3
      obtain ⟨s1, hs1⟩ : ∃ s1, s1 = c1 k := ⟨_, rfl⟩
      obtain ⟨s2, hs2⟩ : ∃ s2, s2 = c2 k := ⟨_, rfl⟩
      rw [← hs1, ← hs2] at hrp
      rw [← hs1] at k1
      rw [← hs2] at k3
      obtain ⟨⟨oo1, qq1, rfl⟩, ⟨oo2, qq2, rfl⟩⟩ := hrp.form
      obtain ⟨S, hS⟩ : ∃ S, S = Nf.mS (l.take k) := ⟨_, rfl⟩
      have hnext : Nf.mS (l.take (k + 1)) = S ++ Nf.sts p := by rw [hS]; unfold Nf.mS; rw [Nf.stsL_next l k p hp]; rfl
      have hSl : S.length ≤ 961 := by
        have := stsL_take_len l k
        rw [hS]; unfold Nf.mS; simp; omega
      have hpp := HPRT.out p (List.mem_of_getElem? hp)
      have hps := Nf.sts_size p.size p (Nat.le_refl _) hpp.1
      have hp60 := hpp.2
      rw [← hS] at hx
      obtain ⟨ov, cv, rfl⟩ := nf_slice hx.rws.own
      obtain ⟨X, hX⟩ : ∃ X, X = wr.alloc (.cells #[.int .i64 p.kind, .slice oo1 p.set.length qq1, .slice oo2 p.parts.length qq2] 41) := ⟨_, rfl⟩
      have hbX : Below wr.heap.size wr X := by rw [hX]; exact bel_new (Below.refl _ _) _
      have hEX : X.heap[wr.heap.size]? = some (.cells #[.int .i64 p.kind, .slice oo1 p.set.length qq1, .slice oo2 p.parts.length qq2] 41 (0, 0)) := by rw [hX]; exact heap_alloc_new wr _
      have hxX := hx.moved hbX
      obtain ⟨x0, x1, x2⟩ : X.cell? ⟨wr.heap.size, 0, none⟩ = some (.int .i64 p.kind) ∧ X.cell? ⟨wr.heap.size, 1, none⟩ = some (.slice oo1 p.set.length qq1) ∧ X.cell? ⟨wr.heap.size, 2, none⟩ = some (.slice oo2 p.parts.length qq2) := by simp [World.cell?, hEX]
      have hcs := fun Y (hY : Below X.heap.size X Y) => reSets_any p _ _ Y (hrp.moved (hxX.bel.trans (hY.mono hxX.bel.size))) (HFIT.out k p hp) (HMAY.out p (List.mem_of_getElem? hp))
      obtain ⟨⟨c0, -, -, -⟩, f0, -⟩ := cells4_of hxX.cn
      have hpl := hp_lt hxX.cn
      have hB := hxX.bel.size
      have hown := hxX.rws.own
      have hno : (Value.slice ov S.length cv).ownBlock ≠ some pb := own_apart hxX.rws.own hxX.cn (by decide)
      have HBX := Lib.hid hbX
      have HXW := Lib.hid hx
      have HC := Lib.hid hcs
      have HXX := Lib.hid hxX
      have HN := Lib.hid hnext
      have HEX := Lib.hid hEX
      clear hcs hx hxX hEX hbX hrp hs1 hs2 hnext hS hpp
      rw [hX] at x0 x1 x2 c0 f0 hpl
      go_upto_region 8 with (fail)
      rw [← hX] at x0 x1 x2 c0 f0 hpl ⊢
      clear hX
      go_region_law
        (first
         | (go_simp; go_at_call 27; refine (HC.out _ (by repeat (first | exact Below.refl _ _ | refine Below.drew ?_))).mono ?_; rintro x w3 ⟨u, ss2, rfl, hu3, hb3⟩
            have hB3 : Below X.heap.size X w3 := bel_then (by repeat (first | exact Below.refl _ _ | refine Below.drew ?_)) hb3
            obtain ⟨o3, c3, rfl⟩ := nf_slice hu3.own
            have q0 : w3.cell? ⟨pb, 0, none⟩ = some (.slice ov S.length cv) := (hB3.cell (p := ⟨pb, 0, none⟩) hpl).trans c0
            have hr3 := Row.owned hu3.own
            have h13 := hu3.one
            have hl3 := hu3.len)
         | (refine step_append_far _ rfl _ _ 46 rfl w.heap.size 39 ii (.slice none 0 0) 1 24 Tryz.underlying46 hi0 hi1 hi2 hi3 rfl (by decide) (.slice ov S.length cv) S.length ss rfl (by repeat (first | exact owns_below hown hB3 | refine World.ownsRow.drew ?_)) _ (Nf.sts p).length ss2 rfl (by first | exact hr3 | exact nf_rowdrew hr3) (by rw [hl3, Nat.mul_one]) h13 (by unfold maxLen; omega) (by omega) (by have := hB3.size; simp; omega) ?_; intro v8 w8 hown8 hg8 hf8 hb8; obtain ⟨o9, c9, rfl⟩ := nf_slice hown8
            have cn8 := (hg8.block pb (by have := hB3.size; simp; omega) (fun e => hno e.symm)).trans (bel_get hB3 HXX.out.cn)
            obtain ⟨⟨d8, -, -, -⟩, f8, -⟩ := cells4_of cn8))
      all_goals (
        have hX3 : Below wr.heap.size wr w3 := bel_then HBX.out hB3
        have hnx := HXW.out.append hX3 (hu3.base (by simp; omega)) hown8 ⟨hg8.os, hg8.tape, hg8.output, hg8.size, hg8.block⟩
        rw [← HN.out] at hnx
        have HNX := Lib.hid hnx
        clear hnx hX3 hown8 hg8 hf8 hb8 cn8 d8 f8 q0 hr3 h13 hu3 hb3
        go_wp2_with fail
        go_roundg g1
        case measure => omega
        case rel => exact ⟨k + 1, by omega, by simp, _, _, HNX.out⟩)
    · obtain rfl : k = l.length := by omega
      rw [List.take_length] at hx
      obtain ⟨ov, cv, rfl⟩ := nf_slice hx.rws.own
      obtain ⟨N, hN⟩ : ∃ N, N = (Nf.mS l).length := ⟨_, rfl⟩
      have hNl : N = 1 + (Nf.stsL l).length := by rw [hN]; unfold Nf.mS; simp; omega
      have hN4 : N ≤ 4000 := by omega
      have hmk := mk_rows N hN4
      rw [← hN] at hx
      obtain ⟨⟨c0, c1', c2', c3'⟩, f0, f1, f2, f3⟩ := cells4_of hx.cn
      have hpl := hp_lt hx.cn
      have hne : ¬ pb = wr.heap.size := by omega
      have hmf : ∀ (fn : Fn) (first cap : Array Value) (w : World), (Instr.makeFunc fn first cap).run Tryz.prog w = .ok (.func fn first cap) w := fun _ _ _ _ => rfl
      have HX1 := Lib.hid hx
      have HN1 := Lib.hid (And.intro hN hNl)
      clear hx HX hN hNl
      go_wp2_with fail
      have hb2 := b2_start HX1.out hN4 rfl
      obtain ⟨fb, hfb⟩ : ∃ fb, fb = wr.heap.size := ⟨_, rfl⟩
      obtain ⟨eb, heb⟩ : ∃ eb, eb = wr.heap.size + 1 := ⟨_, rfl⟩
      obtain ⟨qn, hqn⟩ : ∃ qn, qn = wr.heap.size + 1 + 1 := ⟨_, rfl⟩
      obtain ⟨W2, hW2⟩ : ∃ W2, W2 = ((((wr.setCell ⟨pb, 1, none⟩ (.slice (some ⟨wr.heap.size, 0, none⟩) N N)).setCell ⟨pb, 2, none⟩ (.slice (some ⟨wr.heap.size + 1, 0, none⟩) N N)).alloc (.cells (Array.replicate N (Value.slice none 0 0)) 23)).alloc (.cells (Array.replicate N (Value.slice none 0 0)) 23)).alloc (.cells #[.int .i64 1] 3) := ⟨_, rfl⟩
      rw [← hW2] at hb2 ⊢
      rw [← hqn, ← heb, ← hfb] at hb2
      rw [← hqn]
      have hs0 : ∃ vs us, BSt w W2 fb eb qn pb vs us (.slice ov N cv) ss (Nf.mS l) (Nf.bl (l.take 0) (Nf.b0 N)).F (Nf.bl (l.take 0) (Nf.b0 N)).E (Nf.bl (l.take 0) (Nf.b0 N)).n := ⟨_, _, by rw [List.take_zero]; exact hb2⟩
      have HS0 := Lib.hid hs0
      clear hb2 hW2 hfb heb hqn c0 c1' c2' c3' f0 f1 f2 f3 hpl hne hmk hs0
      go_loopg [67] l.length (fun g s67 wx => ∃ k, k + g = l.length ∧ s67 = .int .i64 (k : Int) ∧ ∃ vs us, BSt w wx fb eb qn pb vs us (.slice ov N cv) ss (Nf.mS l) (Nf.bl (l.take k) (Nf.b0 N)).F (Nf.bl (l.take k) (Nf.b0 N)).E (Nf.bl (l.take k) (Nf.b0 N)).n)
      case atStart => exact ⟨0, by omega, rfl, HS0.out⟩
      case round =>
        obtain ⟨k, hk, rfl, vs, us, hx⟩ := hrel
        have HX := Lib.hid hx
        by_cases hlt : k < l.length
        · obtain ⟨g1, hg1⟩ : ∃ g1, g1 + 1 = gk := ⟨gk - 1, by omega⟩
          obtain ⟨p, hp⟩ : ∃ p, l[k]? = some p := ⟨l[k], List.getElem?_eq_getElem hlt⟩
          obtain ⟨hrp, b, off, rfl, hbl, k0, k1, k3⟩ := HALL.out k p hp
          rw [← hx.ast.bel.cell hbl] at k0
          rw [← hx.ast.bel.cell hbl] at k1
          rw [← hx.ast.bel.cell hbl] at k3
          obtain ⟨s1, hs1⟩ : ∃ s1, s1 = c1 k := ⟨_, rfl⟩
          obtain ⟨s2, hs2⟩ : ∃ s2, s2 = c2 k := ⟨_, rfl⟩
          rw [← hs1, ← hs2] at hrp
          rw [← hs1] at k1
          rw [← hs2] at k3
          have hbk := Nf.bl_ok l HPRT.out k (by omega)
          rw [← HN1.out.2] at hbk
          have hnext := Nf.bl_next l (Nf.b0 N) k p hp
          obtain ⟨x, hxx⟩ : ∃ x, x = Nf.bl (l.take k) (Nf.b0 N) := ⟨_, rfl⟩
          rw [← hxx] at hx hbk hnext
          have hpp := HPRT.out p (List.mem_of_getElem? hp)
          have hpz := Nf.sts_size p.size p (Nat.le_refl _) hpp.1
          have hlen := stsL_take_len l (k + 1)
          rw [Nf.stsL_next l k p hp, List.length_append] at hlen
          have hN2 := HN1.out.2
          have hxn := hbk.n
          have hxk := hbk.k
          have hpt := Nf.pt_ok p.size p (Nat.le_refl _) hpp.1 x.n x.F (by rw [hxn]; omega)
          have hp60 := hpp.2
          have hpart := fun Y (hY : Below wr.heap.size wr Y) => part_all w fb qn pb p.size p s1 s2 (Nat.le_refl _) hpp.1 hp60 hrp Y vs x.F x.n (k * 216060) (hx.moved hY).ps (by rw [hxn]; omega) (by rw [hxn, hbk.lf]; omega) hbk.rf (by omega)
          obtain ⟨r, hr⟩ : ∃ r, r = Nf.pt p x.n x.F := ⟨_, rfl⟩
          rw [← hr] at hpt hpart
          have hnx1 : (Nf.bst x p).F = linkF r.2.2 [0] r.1.2.1 ∧ (Nf.bst x p).E = linkF (if r.1.1 = true then linkF x.E [0] [(k : Int)] else x.E) r.1.2.2 [(k : Int)] ∧ (Nf.bst x p).n = r.2.1 := by
            unfold Nf.bst
            rw [← hr, hxk]
            exact ⟨rfl, rfl, rfl⟩
          obtain ⟨⟨oo1, qq1, rfl⟩, ⟨oo2, qq2, rfl⟩⟩ := hrp.form
          have HP := Lib.hid hpart
          have HXX := Lib.hid hx
          have HBK := Lib.hid hbk
          have HPT := Lib.hid hpt
          have HNX := Lib.hid (And.intro hnext hnx1)
          have HXN := Lib.hid (And.intro hxn hxk)
          have HN2 := Lib.hid hN2
          clear hpart hx hbk hpt hnext hnx1 hxx hr hs1 hs2 hrp hpp hxn hxk hN2
          go_wp2_with fail
          refine (HP.out _ (bel_new (Below.refl _ _) _)).mono ?_
          rintro y w3 ⟨fv, lv', rfl, hpost⟩
          obtain ⟨vs', hb3, kp1, kp2⟩ := (HXX.out.moved (bel_new (Below.refl _ _) _)).parted hpost HPT.out.len
          obtain ⟨of, cf, rfl⟩ := Row.form kp1.here
          obtain ⟨ol, cl, rfl⟩ := Row.form kp2.here
          have hadd := add_any w fb eb pb vs' us r.2.2 x.E w3 hb3.ast (k : Int) r.1.1 r.1.2.1 r.1.2.2 of ol cf cl kp1 kp2 (fun s hs => by have h1 := HPT.out.lst s hs; rw [HPT.out.nxt, HXN.out.1] at h1; rw [HBK.out.le, HN2.out]; omega) (by have := HPT.out.fl; omega) (by have := HPT.out.ll; omega) (by rw [HPT.out.len, HBK.out.lf, HN2.out]; omega) (by rw [HBK.out.le, HN2.out]; omega)
            (fun q hq => by
              have h1 := HPT.out.row _ HBK.out.rf q hq
              have h2 : (Nf.sts p).length * (Nf.sts p).length ≤ 60 * 60 := Nat.mul_le_mul (by omega) (by omega)
              have h3 : p.size * ((Nf.sts p).length * (Nf.sts p).length) ≤ 60 * (60 * 60) := Nat.mul_le_mul hp60 h2
              omega) (fun q hq => by have := HBK.out.re q hq; omega)
          have HB3 := Lib.hid hb3
          have HADD := Lib.hid hadd
          clear hpost hb3 kp1 kp2 hadd
          go_wp2_with fail
          refine HADD.out.mono ?_
          rintro y w4 ⟨⟨yy, rfl⟩, hend⟩
          rw [← HNX.out.2.1, ← HNX.out.2.2.1] at hend
          obtain ⟨vs4, us4, hb4⟩ := HB3.out.added hend (by rw [HNX.out.2.1, linkF_len]) (by rw [HNX.out.2.2.1, linkF_len]; split <;> simp [linkF_len])
          rw [← HNX.out.2.2.2, ← HNX.out.1] at hb4
          have HB4 := Lib.hid hb4
          clear hend hb4
          go_wp2_with fail
          go_roundg g1
          case measure => omega
          case rel => exact ⟨k + 1, by omega, by simp, _, _, HB4.out⟩
        · obtain rfl : k = l.length := by omega
          have hmB : Nf.bl (l.take l.length) (Nf.b0 N) = Nf.mB l := by rw [List.take_length]; unfold Nf.mB; rw [← HN1.out.2]
          rw [hmB] at hx
          have hbk := Nf.bl_ok l HPRT.out l.length (Nat.le_refl _)
          rw [← HN1.out.2, hmB, List.take_length] at hbk
          obtain ⟨F0, hF0⟩ : ∃ F0, F0 = (Nf.mB l).F := ⟨_, rfl⟩
          obtain ⟨E0, hE0⟩ : ∃ E0, E0 = (Nf.mB l).E := ⟨_, rfl⟩
          obtain ⟨n0, hn0⟩ : ∃ n0, n0 = (Nf.mB l).n := ⟨_, rfl⟩
          have hF0l : F0.length = N := by rw [hF0]; exact hbk.lf
          have hF0r : ∀ q ∈ F0, q.length ≤ 4000000 := by
            rw [hF0]
            intro q hq
            have := hbk.rf q hq
            omega
          rw [← hF0, ← hE0, ← hn0] at hx
          have hs0 : ∃ vs us, BSt w wr fb eb qn pb vs us (.slice ov N cv) ss (Nf.mS l) (Nf.ordK F0 0) E0 n0 := ⟨vs, us, by unfold Nf.ordK; rw [List.take_zero, List.drop_zero]; exact hx⟩
          have hpn := hx.pn
          rw [hF0l] at hpn
          obtain ⟨⟨-, d1, -, -⟩, -⟩ := cells4_of hpn
          have HS1 := Lib.hid hs0
          have HF0 := Lib.hid (And.intro hF0 (And.intro hE0 hn0))
          have HF0l := Lib.hid hF0l
          have HF0r := Lib.hid hF0r
          have HBK := Lib.hid hbk
          clear hx hs0 hpn hF0 hE0 hn0 hF0l hF0r hbk hmB HX HS0
          go_wp2_with fail
          clear d1
          go_loopg [85] N (fun g s85 wx => ∃ k, k + g = N ∧ s85 = .int .i64 (k : Int) ∧ ∃ vs us, BSt w wx fb eb qn pb vs us (.slice ov N cv) ss (Nf.mS l) (Nf.ordK F0 k) E0 n0)
          case atStart => exact ⟨0, by omega, rfl, HS1.out⟩
          case round =>
            obtain ⟨k, hk, rfl, vs, us, hx⟩ := hrel
            have HX := Lib.hid hx
            have hkl := Nf.ordK_len F0 k
            rw [HF0l.out] at hkl
            have hpn := hx.pn
            rw [hkl] at hpn
            obtain ⟨⟨c0, d1, c2', c3'⟩, f0, f1, f2, f3⟩ := cells4_of hpn
            have HPN := Lib.hid hpn
            by_cases hlt : k < N
            · obtain ⟨g1, hg1⟩ : ∃ g1, g1 + 1 = gk := ⟨gk - 1, by omega⟩
              have hkF : k < F0.length := by rw [HF0l.out]; exact hlt
              have hkF' : k < (Nf.ordK F0 k).length := by rw [hkl]; exact hlt
              obtain ⟨hcm, hfm⟩ := hx.ast.fol.cell hkF'
              have hown := hx.ast.fol.own k hkF'
              rw [Nf.ordK_get F0 k hkF] at hown
              obtain ⟨R, hR⟩ : ∃ R, R = F0.getD k [] := ⟨_, rfl⟩
              have hRl : R.length ≤ 4000000 := by rw [hR, List.getD_eq_getElem?_getD, List.getElem?_eq_getElem hkF]; exact HF0r.out _ (List.getElem_mem hkF)
              have hnext := Nf.ordK_next F0 k hkF
              rw [← hR] at hown hnext
              obtain ⟨u, hu⟩ : ∃ u, u = vs.getD k undef := ⟨_, rfl⟩
              rw [← hu] at hown hcm
              obtain ⟨ou, cu, rfl⟩ := nf_slice hown
              have hcall := fun Y (hY : Below wr.heap.size wr Y) => ordered_any R hRl _ Y (Row.owned (owns_below hown hY))
              have hfbl := hx.ast.fol.lt
              have hpbl := hx.ast.pl
              have HC := Lib.hid hcall
              have HN5 := Lib.hid hnext
              have HKF := Lib.hid hkF'
              have HXX := Lib.hid hx
              clear hcall hnext hx hu hR hown hkF' hpn hkl
              go_upto_region 22 with (fail)
              go_region_law
                (first
                 | (go_simp; go_at_call 31; refine (HC.out _ (by repeat (first | exact Below.refl _ _ | refine Below.drew ?_))).mono ?_; rintro x w3 ⟨u3, rfl, hu3, hb3⟩
                    have hB3 : Below wr.heap.size wr w3 := bel_then (by repeat (first | exact Below.refl _ _ | refine Below.drew ?_)) hb3
                    obtain ⟨o3, c3, rfl⟩ := nf_slice hu3
                    have q0 : w3.cell? ⟨pb, 1, none⟩ = some (.slice (some ⟨fb, 0, none⟩) N N) := (hB3.cell (p := ⟨pb, 1, none⟩) hpbl).trans d1
                    have q1 : w3.cell? ⟨fb, k, none⟩ = some (.slice ou R.length cu) := (hB3.cell (p := ⟨fb, k, none⟩) hfbl).trans hcm
                    have q2 : w3.frozen? ⟨fb, k, none⟩ = false := by rw [← hfm]; simp only [World.frozen?]; rw [hB3.block fb hfbl]))
              all_goals (
                have hrw := HXX.out.rowed HKF.out (owns_base hu3 (by simp)) hB3
                rw [← HN5.out] at hrw
                have HRW := Lib.hid hrw
                clear hrw hu3 hb3 hB3 q0 q1 q2
                go_wp2_with fail
                go_roundg g1
                case measure => omega
                case rel => exact ⟨k + 1, by omega, by simp, _, _, HRW.out⟩)
            · obtain rfl : k = N := by omega
              have hN2 := HN1.out.2
              have hN3 := HN1.out.1
              rw [hN3] at hx
              have hrr := rowsR_of hx.rws
              have hcut := fun (Y : World) (hY : Below wr.heap.size wr Y) => Rn.cutsR_any (Nf.mS l) ss (.slice ov (Nf.mS l).length cv) Y ⟨hrr.1, hrr.2.1.below hY, fun i hi => (hrr.2.2 i hi).below hY⟩ (fun q hq => (HSF.out q hq).1) (by rw [← hN3]; omega) (fun q hq => (HSF.out q hq).2)
              have hord : Nf.ordK F0 (Nf.mS l).length = Nf.mF l := by
                unfold Nf.mF
                rw [← hN3, ← HF0l.out, Nf.ordK_all, HF0.out.1]
              rw [hord, HF0.out.2.1] at hx
              have hB := HBK.out
              have hmem : ∀ r ∈ Nf.mF l, ∀ x ∈ r, 0 ≤ x ∧ x < ((Nf.mS l).length : Int) := by
                intro r hr x hx
                unfold Nf.mF at hr
                obtain ⟨q, hq, rfl⟩ := List.mem_map.1 hr
                have := hB.mf q hq x ((Nf.mem_ord q x).1 hx)
                rw [← hN3]
                exact this
              have hnis := fun (Y : World) (co : Option Addr) (cc : Nat) => nis_of (w5 := Y) (co := co) (cc := cc) (C := cutsF (Nf.mS l)) hx (by rw [← hN3]; omega) (by rw [← hN3]; unfold Nf.mF; rw [List.length_map]; exact hB.lf) (by rw [← hN3]; exact hB.le)
                ⟨fun q hq => (HSF.out q hq).2, fun r hr => by
                  have h1 : r.Pairwise (· < ·) := by
                    unfold Nf.mF at hr
                    obtain ⟨q, hq, rfl⟩ := List.mem_map.1 hr
                    exact Nf.ord_lt q
                  have := asc_len h1 _ (hmem r hr)
                  rw [← hN3] at this
                  omega, fun r hr => by have := hB.re r hr; omega⟩ hmem
              have hlow' := hx.ast.low
              have HC := Lib.hid hcut
              have HNI := Lib.hid hnis
              rw [hN3] at c0
              clear hcut hnis hrr hmem hord hx hB hN2 hN3 hkl hpn d1 c2' f0 f1 f2 hk
              go_wp2_with (go_at_call 32; refine (HC.out _ (by repeat (first | exact Below.refl _ _ | refine Below.drew ?_))).mono ?_; rintro x w5 ⟨u5, rfl, hu5, hb5⟩
                           obtain ⟨o5, cc5, rfl⟩ : ∃ o c, u5 = .slice o (cutsF (Nf.mS l)).length c := by obtain ⟨o, c, e, _⟩ := Row.owned hu5; exact ⟨o, c, e⟩
                           have q3 : w5.cell? ⟨pb, 3, none⟩ = some (.slice none 0 0) := (hb5.cell (p := ⟨pb, 3, none⟩) (hp_lt HPN.out)).trans c3'
                           have q4 : w5.frozen? ⟨pb, 3, none⟩ = false := by rw [← f3]; simp only [World.frozen?]; rw [hb5.block pb (hp_lt HPN.out)])
              have hfin := HNI.out w5 o5 cc5 hb5 hu5
              have HFIN := Lib.hid hfin
              clear hfin q3 q4 hu5 hb5
              go_ret2
              exact ⟨_, _, _, _, _, _, _, _, _, _, _, _, rfl, HFIN.out.1, HFIN.out.2, hlow'⟩
end Go.Proofs.YtmgfpcblbbpahaaGreat
