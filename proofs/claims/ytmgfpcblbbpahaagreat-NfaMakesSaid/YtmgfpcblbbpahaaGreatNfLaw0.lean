/- What the laws of layer 7 rest on: plain mathematics. -/
import Derived.Test.YtmgfpcblbbpahaaGreatNfBldA
import Derived.Laws.OwnMore
import Derived.Deep.RegionHeld3
import Derived.Test.YtmgfpcblbbpahaaGreatM6W
set_option linter.unusedVariables false
set_option linter.unusedSimpArgs false
namespace Go.Proofs.YtmgfpcblbbpahaaGreat
open Go.RowKit Ru

def Nf.takes (l : List RE) : Bool := decide (1 ≤ l.length) && decide (l.length ≤ 16) && l.all RE.may
set_option maxHeartbeats 1000000 in
set_option maxRecDepth 100000 in
theorem build_bad (e : RE) (sv lv : Value) (w : World) (hr : ReIs w e sv lv) (hf : e.Fit) (hbad : Nf.takes e.parts = false) :
    Calls Tryz.prog 8 #[lv] w fun x w' => x = .returned (.tuple #[.pointer none, .int .i64 1]) ∧ Below w.heap.size w w' := by
  have hc := badL_any e sv lv w hr hf
  obtain ⟨o2, q2, c1, c2, rfl, hall⟩ := hr.all
  have hlen := hf.sets.2.2
  by_cases h1 : (e.parts.length : Int) < 1
  · clear hall hr hf hc hbad
    go_enter Tryz.func8, Tryz.ntmps8
    go_wp2_with fail
    go_ret2
    exact ⟨rfl, Below.refl _ _⟩
  · by_cases h2 : (16 : Int) < (e.parts.length : Int)
    · clear hall hr hf hc hbad
      go_enter Tryz.func8, Tryz.ntmps8
      go_wp2_with fail
      go_ret2
      exact ⟨rfl, Below.refl _ _⟩
    · have hany : (e.parts.any fun p => !p.may) = true := by
        have h3 : e.parts.all RE.may = false := by
          unfold Nf.takes at hbad
          rw [decide_eq_true (show 1 ≤ e.parts.length by omega), decide_eq_true (show e.parts.length ≤ 16 by omega)] at hbad
          simpa using hbad
        rw [List.all_eq_not_any_not] at h3
        simpa using h3
      rw [hany] at hc
      have HC := Lib.hid hc
      clear hall hr hf hc hbad hany
      go_enter Tryz.func8, Tryz.ntmps8
      go_wp2_with (go_at_call 26; refine HC.out.mono ?_; rintro x w' ⟨rfl, hb⟩)
      go_ret2
      exact ⟨rfl, hb⟩
end Go.Proofs.YtmgfpcblbbpahaaGreat

namespace Go.Proofs.YtmgfpcblbbpahaaGreat
open Go.RowKit Ru

namespace Nf
def mS (l : List RE) : List (List Pc) := [] :: stsL l
def mB (l : List RE) : BS := bl l (b0 (1 + (stsL l).length))
def mF (l : List RE) : List (List Int) := (mB l).F.map ordL
def mE (l : List RE) : List (List Int) := (mB l).E
theorem sts_fit : ∀ (N : Nat) (e : RE), e.size ≤ N → e.prt = true → e.Fit → ∀ s ∈ sts e, i32s s ∧ s.length ≤ 1000 := by
  intro N
  induction N with
  | zero => intro e h; have := e.size_pos; omega
  | succ N ih =>
    intro e h hp hf
    have hfs := hf.sets
    cases e with
    | mk k s l =>
      rw [RE.size_mk] at h
      rw [sts_mk]
      rcases prt_cases hp with ⟨rfl, rfl⟩ | ⟨rfl, rfl⟩ | ⟨rfl, rfl, _⟩ | ⟨rfl, a, rfl, ha⟩ | ⟨hk, a, b, rfl, ha, hb⟩
      · simp [stsL_nil]
      · simp [stsL_nil]
      · intro q hq
        rw [if_pos rfl, stsL_nil, List.mem_singleton] at hq
        subst hq
        exact ⟨hfs.1, hfs.2.1⟩
      · rw [RE.sizes_cons, RE.sizes_nil] at h
        have := ih a (by omega) ha (hf.part (i := 0) rfl)
        simpa [stsL_cons, stsL_nil] using this
      · rw [RE.sizes_cons, RE.sizes_cons, RE.sizes_nil] at h
        have h1 := ih a (by omega) ha (hf.part (i := 0) rfl)
        have h2 := ih b (by omega) hb (hf.part (i := 1) rfl)
        have k2 : ¬ k = 2 := by omega
        intro q hq
        rw [if_neg k2, stsL_cons, stsL_cons, stsL_nil, List.append_nil, List.mem_append] at hq
        exact hq.elim (h1 q) (h2 q)
theorem stsL_fit (l : List RE) (h : ∀ e ∈ l, e.prt = true ∧ e.Fit) : ∀ s ∈ stsL l, i32s s ∧ s.length ≤ 1000 := by
  induction l with
  | nil => rw [stsL_nil]; simp
  | cons e l ih =>
    intro s hs
    rw [stsL_cons, List.mem_append] at hs
    rcases hs with hs | hs
    · exact sts_fit e.size e (Nat.le_refl _) (h e (by simp)).1 (h e (by simp)).2 s hs
    · exact ih (fun e he => h e (by simp [he])) s hs
end Nf
theorem infoInts : ∃ i, Tryz.prog.info? 23 = some i ∧ i.zero = some (.slice none 0 0) ∧ i.size = 1 ∧ i.bytes = 24 := info_parts (by kernel_rfl)
set_option maxRecDepth 100000 in
set_option maxHeartbeats 4000000 in
theorem build_any (e : RE) (sv lv : Value) (w : World) (hr : ReIs w e sv lv) (hf : e.Fit) (ht : Nf.takes e.parts = true) :
    Calls Tryz.prog 8 #[lv] w fun x w' => ∃ pb so fo eo co sc fc ec cc ss fs es, x = .returned (.tuple #[.pointer (some ⟨pb, 0, none⟩), .int .i64 0]) ∧
      NIs w' pb (Nf.mS e.parts) (Nf.mF e.parts) (Nf.mE e.parts) (cutsF (Nf.mS e.parts)) so fo eo co sc fc ec cc ss fs es ∧ Below w.heap.size w w' ∧ w.heap.size ≤ pb := by
  obtain ⟨ii, hi0, hi1, hi2, hi3⟩ := infoRow
  obtain ⟨ij, hj0, hj1, hj2, hj3⟩ := infoInts
  have hbad := badL_any e sv lv w hr hf
  obtain ⟨l, hl⟩ : ∃ l, l = e.parts := ⟨_, rfl⟩
  have hall1 : 1 ≤ l.length ∧ l.length ≤ 16 ∧ ∀ p ∈ l, p.may = true := by
    unfold Nf.takes at ht
    rw [← hl] at ht
    simp only [Bool.and_eq_true, decide_eq_true_eq] at ht
    exact ⟨ht.1.1, ht.1.2, List.all_eq_true.1 ht.2⟩
  have hany : (e.parts.any fun p => !p.may) = false := by
    rw [List.any_eq_false]
    intro p hp
    rw [← hl] at hp
    rw [hall1.2.2 p hp]; simp
  rw [hany] at hbad
  obtain ⟨o2, q2, c1, c2, rfl, hall⟩ := hr.all
  have hfit : ∀ (i : Nat) (p : RE), l[i]? = some p → p.Fit := fun i p hp => hf.part (by rw [← hl]; exact hp)
  rw [← hl] at hall hbad ⊢
  obtain ⟨hl1, hl16, hmay⟩ := hall1
  have hprt : ∀ p ∈ l, p.prt = true ∧ p.size ≤ 60 := fun p hp => by
    have := (RE.may_iff p).1 (hmay p hp)
    exact ⟨this.2.2, this.1⟩
  have hszl := Nf.stsL_size l hprt
  have n1 : ¬ ((l.length : Int) < 1) := by omega
  have n16 : ¬ ((16 : Int) < (l.length : Int)) := by omega
  have hsf : ∀ q ∈ Nf.mS l, i32s q ∧ q.length ≤ 1000 := by
    intro q hq
    unfold Nf.mS at hq
    rcases List.mem_cons.1 hq with rfl | hq
    · exact ⟨fun p hp => by simp at hp, by simp⟩
    · refine Nf.stsL_fit l (fun p hp => ⟨(hprt p hp).1, ?_⟩) q hq
      obtain ⟨i, hi, rfl⟩ := List.mem_iff_getElem.1 hp
      exact hfit i _ (List.getElem?_eq_getElem hi)
  have HSF := Lib.hid hsf
  clear hsf
  have HBAD := Lib.hid hbad
  have HALL := Lib.hid hall
  have HFIT := Lib.hid hfit
  have HMAY := Lib.hid hmay
  have HPRT := Lib.hid hprt
  clear hbad hall hfit hmay hprt hany hf hr ht hl
  go_enter Tryz.func8, Tryz.ntmps8
  go_wp2_with (go_at_call 26; refine HBAD.out.mono ?_; rintro x w' ⟨rfl, hb⟩)
  obtain ⟨pb, hpb⟩ : ∃ pb, pb = w'.heap.size + 1 := ⟨_, rfl⟩
  obtain ⟨W1, hW1⟩ : ∃ W1, W1 = (w'.alloc (.cells #[.slice none 0 0] 39)).alloc (.cells #[.slice (some ⟨w'.heap.size, 0, none⟩) 1 1, .slice none 0 0, .slice none 0 0, .slice none 0 0] 58) := ⟨_, rfl⟩
  rw [← hW1, ← hpb]
  have hst : B1 w W1 pb (.slice (some ⟨w'.heap.size, 0, none⟩) 1 1) [.slice none 0 0] (Nf.mS (l.take 0)) := by
    have hg0 : W1.heap[w'.heap.size]? = some (.cells #[.slice none 0 0] 39 (0, 0)) := by rw [hW1, Below.heap_alloc _ _ _ (by simp)]; exact heap_alloc_new w' _
    have hbs := hb.size
    refine ⟨bel_then hb (by rw [hW1]; exact bel_new (bel_new (Below.refl _ _) _) _), ?_, by omega, ⟨?_, ?_, fun i hi => ?_⟩⟩
    · rw [hW1, hpb]
      have := heap_alloc_new (w'.alloc (.cells #[.slice none 0 0] 39)) (.cells #[.slice (some ⟨w'.heap.size, 0, none⟩) 1 1, .slice none 0 0, .slice none 0 0, .slice none 0 0] 58)
      rwa [World.size_alloc] at this
    · rw [List.take_zero]; unfold Nf.mS; rw [Nf.stsL_nil]; rfl
    · rw [List.take_zero]; unfold Nf.mS; rw [Nf.stsL_nil]
      exact owns_base (afrow_block (n := 1) (size := 1) hg0 rfl (by decide)) (by omega)
    · rw [List.take_zero]; unfold Nf.mS; rw [Nf.stsL_nil]
      rw [List.take_zero] at hi; unfold Nf.mS at hi; rw [Nf.stsL_nil] at hi
      obtain rfl : i = 0 := by simp at hi; exact hi
      exact World.ownsRow_nil _ _ _ _
  have HST := Lib.hid hst
  have hlow : w.heap.size ≤ pb := HST.out.low
  clear hst hb hW1 hpb
  go_loopg [31] l.length (fun g s31 wx => ∃ k, k + g = l.length ∧ s31 = .int .i64 (k : Int) ∧ ∃ v ss, B1 w wx pb v ss (Nf.mS (l.take k)))
  case atStart => exact ⟨0, by omega, rfl, _, _, HST.out⟩
  case round =>
    obtain ⟨k, hk, rfl, v, ss, hx⟩ := hrel
    have HX := Lib.hid hx
    by_cases hlt : k < l.length
    · obtain ⟨g1, hg1⟩ : ∃ g1, g1 + 1 = gk := ⟨gk - 1, by omega⟩
      obtain ⟨p, hp⟩ : ∃ p, l[k]? = some p := ⟨l[k], List.getElem?_eq_getElem hlt⟩
      obtain ⟨hrp, b, off, rfl, hbl, k0, k1, k3⟩ := HALL.out k p hp
      rw [← hx.bel.cell hbl] at k0
      rw [← hx.bel.cell hbl] at k1
      rw [← hx.bel.cell hbl] at k3
      obtain ⟨s1, hs1⟩ : ∃ s1, s1 = c1 k := ⟨_, rfl⟩
      obtain ⟨s2, hs2⟩ : ∃ s2, s2 = c2 k := ⟨_, rfl⟩
      rw [← hs1, ← hs2] at hrp
      rw [← hs1] at k1
      rw [← hs2] at k3
      obtain ⟨⟨oo1, qq1, rfl⟩, ⟨oo2, qq2, rfl⟩⟩ := hrp.form
      obtain ⟨S, hS⟩ : ∃ S, S = Nf.mS (l.take k) := ⟨_, rfl⟩
      have hnext : Nf.mS (l.take (k + 1)) = S ++ Nf.sts p := by rw [hS]; unfold Nf.mS; rw [Nf.stsL_next l k p hp]; rfl
      have hSl : S.length ≤ 961 := by
        have := stsL_take_len l k
        rw [hS]; unfold Nf.mS; simp; omega
      have hpp := HPRT.out p (List.mem_of_getElem? hp)
      have hps := Nf.sts_size p.size p (Nat.le_refl _) hpp.1
      have hp60 := hpp.2
      rw [← hS] at hx
      obtain ⟨ov, cv, rfl⟩ := nf_slice hx.rws.own
      obtain ⟨X, hX⟩ : ∃ X, X = wr.alloc (.cells #[.int .i64 p.kind, .slice oo1 p.set.length qq1, .slice oo2 p.parts.length qq2] 41) := ⟨_, rfl⟩
      have hbX : Below wr.heap.size wr X := by rw [hX]; exact bel_new (Below.refl _ _) _
      have hEX : X.heap[wr.heap.size]? = some (.cells #[.int .i64 p.kind, .slice oo1 p.set.length qq1, .slice oo2 p.parts.length qq2] 41 (0, 0)) := by rw [hX]; exact heap_alloc_new wr _
      have hxX := hx.moved hbX
      obtain ⟨x0, x1, x2⟩ : X.cell? ⟨wr.heap.size, 0, none⟩ = some (.int .i64 p.kind) ∧ X.cell? ⟨wr.heap.size, 1, none⟩ = some (.slice oo1 p.set.length qq1) ∧ X.cell? ⟨wr.heap.size, 2, none⟩ = some (.slice oo2 p.parts.length qq2) := by simp [World.cell?, hEX]
      have hcs := fun Y (hY : Below X.heap.size X Y) => reSets_any p _ _ Y (hrp.moved (hxX.bel.trans (hY.mono hxX.bel.size))) (HFIT.out k p hp) (HMAY.out p (List.mem_of_getElem? hp))
      obtain ⟨⟨c0, -, -, -⟩, f0, -⟩ := cells4_of hxX.cn
      have hpl := hp_lt hxX.cn
      have hB := hxX.bel.size
      have hown := hxX.rws.own
      have hno : (Value.slice ov S.length cv).ownBlock ≠ some pb := own_apart hxX.rws.own hxX.cn (by decide)
      have HBX := Lib.hid hbX
      have HXW := Lib.hid hx
      have HC := Lib.hid hcs
      have HXX := Lib.hid hxX
      have HN := Lib.hid hnext
      have HEX := Lib.hid hEX
      clear hcs hx hxX hEX hbX hrp hs1 hs2 hnext hS hpp
      rw [hX] at x0 x1 x2 c0 f0 hpl
      go_upto_region 8 with (fail)
      rw [← hX] at x0 x1 x2 c0 f0 hpl ⊢
      clear hX
      go_region_law
        (first
         | (go_simp; go_at_call 27; refine (HC.out _ (by repeat (first | exact Below.refl _ _ | refine Below.drew ?_))).mono ?_; rintro x w3 ⟨u, ss2, rfl, hu3, hb3⟩
            have hB3 : Below X.heap.size X w3 := bel_then (by repeat (first | exact Below.refl _ _ | refine Below.drew ?_)) hb3
            obtain ⟨o3, c3, rfl⟩ := nf_slice hu3.own
            have q0 : w3.cell? ⟨pb, 0, none⟩ = some (.slice ov S.length cv) := (hB3.cell (p := ⟨pb, 0, none⟩) hpl).trans c0
            have hr3 := Row.owned hu3.own
            have h13 := hu3.one
            have hl3 := hu3.len)
         | (refine step_append_far _ rfl _ _ 46 rfl w.heap.size 39 ii (.slice none 0 0) 1 24 Tryz.underlying46 hi0 hi1 hi2 hi3 rfl (by decide) (.slice ov S.length cv) S.length ss rfl (by repeat (first | exact owns_below hown hB3 | refine World.ownsRow.drew ?_)) _ (Nf.sts p).length ss2 rfl (by first | exact hr3 | exact nf_rowdrew hr3) (by rw [hl3, Nat.mul_one]) h13 (by unfold maxLen; omega) (by omega) (by have := hB3.size; simp; omega) ?_; intro v8 w8 hown8 hg8 hf8 hb8; obtain ⟨o9, c9, rfl⟩ := nf_slice hown8
            have cn8 := (hg8.block pb (by have := hB3.size; simp; omega) (fun e => hno e.symm)).trans (bel_get hB3 HXX.out.cn)
            obtain ⟨⟨d8, -, -, -⟩, f8, -⟩ := cells4_of cn8))
      all_goals (
        have hX3 : Below wr.heap.size wr w3 := bel_then HBX.out hB3
        have hnx := HXW.out.append hX3 (hu3.base (by simp; omega)) hown8 ⟨hg8.os, hg8.tape, hg8.output, hg8.size, hg8.block⟩
        rw [← HN.out] at hnx
        have HNX := Lib.hid hnx
        clear hnx hX3 hown8 hg8 hf8 hb8 cn8 d8 f8 q0 hr3 h13 hu3 hb3
        go_wp2_with fail
        go_roundg g1
        case measure => omega
        case rel => exact ⟨k + 1, by omega, by simp, _, _, HNX.out⟩)
    · obtain rfl : k = l.length := by omega
      rw [List.take_length] at hx
      obtain ⟨ov, cv, rfl⟩ := nf_slice hx.rws.own
      obtain ⟨N, hN⟩ : ∃ N, N = (Nf.mS l).length := ⟨_, rfl⟩
      have hNl : N = 1 + (Nf.stsL l).length := by rw [hN]; unfold Nf.mS; simp; omega
      have hN4 : N ≤ 4000 := by omega
      have hmk := mk_rows N hN4
      rw [← hN] at hx
      obtain ⟨⟨c0, c1', c2', c3'⟩, f0, f1, f2, f3⟩ := cells4_of hx.cn
      have hpl := hp_lt hx.cn
      have hne : ¬ pb = wr.heap.size := by omega
      have hmf : ∀ (fn : Fn) (first cap : Array Value) (w : World), (Instr.makeFunc fn first cap).run Tryz.prog w = .ok (.func fn first cap) w := fun _ _ _ _ => rfl
      have HX1 := Lib.hid hx
      have HN1 := Lib.hid (And.intro hN hNl)
      clear hx HX hN hNl
      go_wp2_with fail
      have hb2 := b2_start HX1.out hN4 rfl
      obtain ⟨fb, hfb⟩ : ∃ fb, fb = wr.heap.size := ⟨_, rfl⟩
      obtain ⟨eb, heb⟩ : ∃ eb, eb = wr.heap.size + 1 := ⟨_, rfl⟩
      obtain ⟨qn, hqn⟩ : ∃ qn, qn = wr.heap.size + 1 + 1 := ⟨_, rfl⟩
      obtain ⟨W2, hW2⟩ : ∃ W2, W2 = ((((wr.setCell ⟨pb, 1, none⟩ (.slice (some ⟨wr.heap.size, 0, none⟩) N N)).setCell ⟨pb, 2, none⟩ (.slice (some ⟨wr.heap.size + 1, 0, none⟩) N N)).alloc (.cells (Array.replicate N (Value.slice none 0 0)) 23)).alloc (.cells (Array.replicate N (Value.slice none 0 0)) 23)).alloc (.cells #[.int .i64 1] 3) := ⟨_, rfl⟩
      rw [← hW2] at hb2 ⊢
      rw [← hqn, ← heb, ← hfb] at hb2
      rw [← hqn]
      have hs0 : ∃ vs us, BSt w W2 fb eb qn pb vs us (.slice ov N cv) ss (Nf.mS l) (Nf.bl (l.take 0) (Nf.b0 N)).F (Nf.bl (l.take 0) (Nf.b0 N)).E (Nf.bl (l.take 0) (Nf.b0 N)).n := ⟨_, _, by rw [List.take_zero]; exact hb2⟩
      have HS0 := Lib.hid hs0
      clear hb2 hW2 hfb heb hqn c0 c1' c2' c3' f0 f1 f2 f3 hpl hne hmk hs0
      go_loopg [67] l.length (fun g s67 wx => ∃ k, k + g = l.length ∧ s67 = .int .i64 (k : Int) ∧ ∃ vs us, BSt w wx fb eb qn pb vs us (.slice ov N cv) ss (Nf.mS l) (Nf.bl (l.take k) (Nf.b0 N)).F (Nf.bl (l.take k) (Nf.b0 N)).E (Nf.bl (l.take k) (Nf.b0 N)).n)
      case atStart => exact ⟨0, by omega, rfl, HS0.out⟩
      case round =>
        obtain ⟨k, hk, rfl, vs, us, hx⟩ := hrel
        have HX := Lib.hid hx
        by_cases hlt : k < l.length
        · obtain ⟨g1, hg1⟩ : ∃ g1, g1 + 1 = gk := ⟨gk - 1, by omega⟩
          obtain ⟨p, hp⟩ : ∃ p, l[k]? = some p := ⟨l[k], List.getElem?_eq_getElem hlt⟩
          obtain ⟨hrp, b, off, rfl, hbl, k0, k1, k3⟩ := HALL.out k p hp
          rw [← hx.ast.bel.cell hbl] at k0
          rw [← hx.ast.bel.cell hbl] at k1
          rw [← hx.ast.bel.cell hbl] at k3
          obtain ⟨s1, hs1⟩ : ∃ s1, s1 = c1 k := ⟨_, rfl⟩
          obtain ⟨s2, hs2⟩ : ∃ s2, s2 = c2 k := ⟨_, rfl⟩
          rw [← hs1, ← hs2] at hrp
          rw [← hs1] at k1
          rw [← hs2] at k3
          have hbk := Nf.bl_ok l HPRT.out k (by omega)
          rw [← HN1.out.2] at hbk
          have hnext := Nf.bl_next l (Nf.b0 N) k p hp
          obtain ⟨x, hxx⟩ : ∃ x, x = Nf.bl (l.take k) (Nf.b0 N) := ⟨_, rfl⟩
          rw [← hxx] at hx hbk hnext
          have hpp := HPRT.out p (List.mem_of_getElem? hp)
          have hpz := Nf.sts_size p.size p (Nat.le_refl _) hpp.1
          have hlen := stsL_take_len l (k + 1)
          rw [Nf.stsL_next l k p hp, List.length_append] at hlen
          have hN2 := HN1.out.2
          have hxn := hbk.n
          have hxk := hbk.k
          have hpt := Nf.pt_ok p.size p (Nat.le_refl _) hpp.1 x.n x.F (by rw [hxn]; omega)
          have hp60 := hpp.2
          have hpart := fun Y (hY : Below wr.heap.size wr Y) => part_all w fb qn pb p.size p s1 s2 (Nat.le_refl _) hpp.1 hp60 hrp Y vs x.F x.n (k * 216060) (hx.moved hY).ps (by rw [hxn]; omega) (by rw [hxn, hbk.lf]; omega) hbk.rf (by omega)
          obtain ⟨r, hr⟩ : ∃ r, r = Nf.pt p x.n x.F := ⟨_, rfl⟩
          rw [← hr] at hpt hpart
          have hnx1 : (Nf.bst x p).F = linkF r.2.2 [0] r.1.2.1 ∧ (Nf.bst x p).E = linkF (if r.1.1 = true then linkF x.E [0] [(k : Int)] else x.E) r.1.2.2 [(k : Int)] ∧ (Nf.bst x p).n = r.2.1 := by
            unfold Nf.bst
            rw [← hr, hxk]
            exact ⟨rfl, rfl, rfl⟩
          obtain ⟨⟨oo1, qq1, rfl⟩, ⟨oo2, qq2, rfl⟩⟩ := hrp.form
          have HP := Lib.hid hpart
          have HXX := Lib.hid hx
          have HBK := Lib.hid hbk
          have HPT := Lib.hid hpt
          have HNX := Lib.hid (And.intro hnext hnx1)
          have HXN := Lib.hid (And.intro hxn hxk)
          have HN2 := Lib.hid hN2
          clear hpart hx hbk hpt hnext hnx1 hxx hr hs1 hs2 hrp hpp hxn hxk hN2
          go_wp2_with fail
          refine (HP.out _ (bel_new (Below.refl _ _) _)).mono ?_
          rintro y w3 ⟨fv, lv', rfl, hpost⟩
          obtain ⟨vs', hb3, kp1, kp2⟩ := (HXX.out.moved (bel_new (Below.refl _ _) _)).parted hpost HPT.out.len
          obtain ⟨of, cf, rfl⟩ := Row.form kp1.here
          obtain ⟨ol, cl, rfl⟩ := Row.form kp2.here
          have hadd := add_any w fb eb pb vs' us r.2.2 x.E w3 hb3.ast (k : Int) r.1.1 r.1.2.1 r.1.2.2 of ol cf cl kp1 kp2 (fun s hs => by have h1 := HPT.out.lst s hs; rw [HPT.out.nxt, HXN.out.1] at h1; rw [HBK.out.le, HN2.out]; omega) (by have := HPT.out.fl; omega) (by have := HPT.out.ll; omega) (by rw [HPT.out.len, HBK.out.lf, HN2.out]; omega) (by rw [HBK.out.le, HN2.out]; omega)
            (fun q hq => by
              have h1 := HPT.out.row _ HBK.out.rf q hq
              have h2 : (Nf.sts p).length * (Nf.sts p).length ≤ 60 * 60 := Nat.mul_le_mul (by omega) (by omega)
              have h3 : p.size * ((Nf.sts p).length * (Nf.sts p).length) ≤ 60 * (60 * 60) := Nat.mul_le_mul hp60 h2
              omega) (fun q hq => by have := HBK.out.re q hq; omega)
          have HB3 := Lib.hid hb3
          have HADD := Lib.hid hadd
          clear hpost hb3 kp1 kp2 hadd
          go_wp2_with fail
          refine HADD.out.mono ?_
          rintro y w4 ⟨⟨yy, rfl⟩, hend⟩
          rw [← HNX.out.2.1, ← HNX.out.2.2.1] at hend
          obtain ⟨vs4, us4, hb4⟩ := HB3.out.added hend (by rw [HNX.out.2.1, linkF_len]) (by rw [HNX.out.2.2.1, linkF_len]; split <;> simp [linkF_len])
          rw [← HNX.out.2.2.2, ← HNX.out.1] at hb4
          have HB4 := Lib.hid hb4
          clear hend hb4
          go_wp2_with fail
          go_roundg g1
          case measure => omega
          case rel => exact ⟨k + 1, by omega, by simp, _, _, HB4.out⟩
        · obtain rfl : k = l.length := by omega
          have hmB : Nf.bl (l.take l.length) (Nf.b0 N) = Nf.mB l := by rw [List.take_length]; unfold Nf.mB; rw [← HN1.out.2]
          rw [hmB] at hx
          have hbk := Nf.bl_ok l HPRT.out l.length (Nat.le_refl _)
          rw [← HN1.out.2, hmB, List.take_length] at hbk
          obtain ⟨F0, hF0⟩ : ∃ F0, F0 = (Nf.mB l).F := ⟨_, rfl⟩
          obtain ⟨E0, hE0⟩ : ∃ E0, E0 = (Nf.mB l).E := ⟨_, rfl⟩
          obtain ⟨n0, hn0⟩ : ∃ n0, n0 = (Nf.mB l).n := ⟨_, rfl⟩
          have hF0l : F0.length = N := by rw [hF0]; exact hbk.lf
          have hF0r : ∀ q ∈ F0, q.length ≤ 4000000 := by
            rw [hF0]
            intro q hq
            have := hbk.rf q hq
            omega
          rw [← hF0, ← hE0, ← hn0] at hx
          have hs0 : ∃ vs us, BSt w wr fb eb qn pb vs us (.slice ov N cv) ss (Nf.mS l) (Nf.ordK F0 0) E0 n0 := ⟨vs, us, by unfold Nf.ordK; rw [List.take_zero, List.drop_zero]; exact hx⟩
          have hpn := hx.pn
          rw [hF0l] at hpn
          obtain ⟨⟨-, d1, -, -⟩, -⟩ := cells4_of hpn
          have HS1 := Lib.hid hs0
          have HF0 := Lib.hid (And.intro hF0 (And.intro hE0 hn0))
          have HF0l := Lib.hid hF0l
          have HF0r := Lib.hid hF0r
          have HBK := Lib.hid hbk
          clear hx hs0 hpn hF0 hE0 hn0 hF0l hF0r hbk hmB HX HS0
          go_wp2_with fail
          clear d1
          go_loopg [85] N (fun g s85 wx => ∃ k, k + g = N ∧ s85 = .int .i64 (k : Int) ∧ ∃ vs us, BSt w wx fb eb qn pb vs us (.slice ov N cv) ss (Nf.mS l) (Nf.ordK F0 k) E0 n0)
          case atStart => exact ⟨0, by omega, rfl, HS1.out⟩
          case round =>
            obtain ⟨k, hk, rfl, vs, us, hx⟩ := hrel
            have HX := Lib.hid hx
            have hkl := Nf.ordK_len F0 k
            rw [HF0l.out] at hkl
            have hpn := hx.pn
            rw [hkl] at hpn
            obtain ⟨⟨c0, d1, c2', c3'⟩, f0, f1, f2, f3⟩ := cells4_of hpn
            have HPN := Lib.hid hpn
            by_cases hlt : k < N
            · obtain ⟨g1, hg1⟩ : ∃ g1, g1 + 1 = gk := ⟨gk - 1, by omega⟩
              have hkF : k < F0.length := by rw [HF0l.out]; exact hlt
              have hkF' : k < (Nf.ordK F0 k).length := by rw [hkl]; exact hlt
              obtain ⟨hcm, hfm⟩ := hx.ast.fol.cell hkF'
              have hown := hx.ast.fol.own k hkF'
              rw [Nf.ordK_get F0 k hkF] at hown
              obtain ⟨R, hR⟩ : ∃ R, R = F0.getD k [] := ⟨_, rfl⟩
              have hRl : R.length ≤ 4000000 := by rw [hR, List.getD_eq_getElem?_getD, List.getElem?_eq_getElem hkF]; exact HF0r.out _ (List.getElem_mem hkF)
              have hnext := Nf.ordK_next F0 k hkF
              rw [← hR] at hown hnext
              obtain ⟨u, hu⟩ : ∃ u, u = vs.getD k undef := ⟨_, rfl⟩
              rw [← hu] at hown hcm
              obtain ⟨ou, cu, rfl⟩ := nf_slice hown
              have hcall := fun Y (hY : Below wr.heap.size wr Y) => ordered_any R hRl _ Y (Row.owned (owns_below hown hY))
              have hfbl := hx.ast.fol.lt
              have hpbl := hx.ast.pl
              have HC := Lib.hid hcall
              have HN5 := Lib.hid hnext
              have HKF := Lib.hid hkF'
              have HXX := Lib.hid hx
              clear hcall hnext hx hu hR hown hkF' hpn hkl
              go_upto_region 22 with (fail)
              go_region_law
                (first
                 | (go_simp; go_at_call 31; refine (HC.out _ (by repeat (first | exact Below.refl _ _ | refine Below.drew ?_))).mono ?_; rintro x w3 ⟨u3, rfl, hu3, hb3⟩
                    have hB3 : Below wr.heap.size wr w3 := bel_then (by repeat (first | exact Below.refl _ _ | refine Below.drew ?_)) hb3
                    obtain ⟨o3, c3, rfl⟩ := nf_slice hu3
                    have q0 : w3.cell? ⟨pb, 1, none⟩ = some (.slice (some ⟨fb, 0, none⟩) N N) := (hB3.cell (p := ⟨pb, 1, none⟩) hpbl).trans d1
                    have q1 : w3.cell? ⟨fb, k, none⟩ = some (.slice ou R.length cu) := (hB3.cell (p := ⟨fb, k, none⟩) hfbl).trans hcm
                    have q2 : w3.frozen? ⟨fb, k, none⟩ = false := by rw [← hfm]; simp only [World.frozen?]; rw [hB3.block fb hfbl]))
              all_goals (
                have hrw := HXX.out.rowed HKF.out (owns_base hu3 (by simp)) hB3
                rw [← HN5.out] at hrw
                have HRW := Lib.hid hrw
                clear hrw hu3 hb3 hB3 q0 q1 q2
                go_wp2_with fail
                go_roundg g1
                case measure => omega
                case rel => exact ⟨k + 1, by omega, by simp, _, _, HRW.out⟩)
            · obtain rfl : k = N := by omega
              have hN2 := HN1.out.2
              have hN3 := HN1.out.1
              rw [hN3] at hx
              have hrr := rowsR_of hx.rws
              have hcut := fun (Y : World) (hY : Below wr.heap.size wr Y) => Rn.cutsR_any (Nf.mS l) ss (.slice ov (Nf.mS l).length cv) Y ⟨hrr.1, hrr.2.1.below hY, fun i hi => (hrr.2.2 i hi).below hY⟩ (fun q hq => (HSF.out q hq).1) (by rw [← hN3]; omega) (fun q hq => (HSF.out q hq).2)
              have hord : Nf.ordK F0 (Nf.mS l).length = Nf.mF l := by
                unfold Nf.mF
                rw [← hN3, ← HF0l.out, Nf.ordK_all, HF0.out.1]
              rw [hord, HF0.out.2.1] at hx
              have hB := HBK.out
              have hmem : ∀ r ∈ Nf.mF l, ∀ x ∈ r, 0 ≤ x ∧ x < ((Nf.mS l).length : Int) := by
                intro r hr x hx
                unfold Nf.mF at hr
                obtain ⟨q, hq, rfl⟩ := List.mem_map.1 hr
                have := hB.mf q hq x ((Nf.mem_ord q x).1 hx)
                rw [← hN3]
                exact this
              have hnis := fun (Y : World) (co : Option Addr) (cc : Nat) => nis_of (w5 := Y) (co := co) (cc := cc) (C := cutsF (Nf.mS l)) hx (by rw [← hN3]; omega) (by rw [← hN3]; unfold Nf.mF; rw [List.length_map]; exact hB.lf) (by rw [← hN3]; exact hB.le)
                ⟨fun q hq => (HSF.out q hq).2, fun r hr => by
                  have h1 : r.Pairwise (· < ·) := by
                    unfold Nf.mF at hr
                    obtain ⟨q, hq, rfl⟩ := List.mem_map.1 hr
                    exact Nf.ord_lt q
                  have := asc_len h1 _ (hmem r hr)
                  rw [← hN3] at this
                  omega, fun r hr => by have := hB.re r hr; omega⟩ hmem
              have hlow' := hx.ast.low
              have HC := Lib.hid hcut
              have HNI := Lib.hid hnis
              rw [hN3] at c0
              clear hcut hnis hrr hmem hord hx hB hN2 hN3 hkl hpn d1 c2' f0 f1 f2 hk
              go_wp2_with (go_at_call 32; refine (HC.out _ (by repeat (first | exact Below.refl _ _ | refine Below.drew ?_))).mono ?_; rintro x w5 ⟨u5, rfl, hu5, hb5⟩
                           obtain ⟨o5, cc5, rfl⟩ : ∃ o c, u5 = .slice o (cutsF (Nf.mS l)).length c := by obtain ⟨o, c, e, _⟩ := Row.owned hu5; exact ⟨o, c, e⟩
                           have q3 : w5.cell? ⟨pb, 3, none⟩ = some (.slice none 0 0) := (hb5.cell (p := ⟨pb, 3, none⟩) (hp_lt HPN.out)).trans c3'
                           have q4 : w5.frozen? ⟨pb, 3, none⟩ = false := by rw [← f3]; simp only [World.frozen?]; rw [hb5.block pb (hp_lt HPN.out)])
              have hfin := HNI.out w5 o5 cc5 hb5 hu5
              have HFIN := Lib.hid hfin
              clear hfin q3 q4 hu5 hb5
              go_ret2
              exact ⟨_, _, _, _, _, _, _, _, _, _, _, _, rfl, HFIN.out.1, HFIN.out.2, hlow'⟩
end Go.Proofs.YtmgfpcblbbpahaaGreat

namespace Go.Proofs.YtmgfpcblbbpahaaGreat
open Go.RowKit Ru

def Nf.resL (F : List (List Int)) : List RE := if F.length = 0 then [M6.oneR 97] else (F.take 4).map M6.makeR
theorem reis_list {w : World} {B : Nat} {v : Value} {ps : List Rt} (hown : w.ownsRow B 41 3 v ps.length (ps.flatMap thr)) (hk : ∀ p ∈ ps, ReIs w p.1 p.2.1 p.2.2) : ReIs w (.mk 0 [] (ps.map (·.1))) (.slice none 0 0) v := by
  refine .mk 0 [] _ _ _ (ps.map fun p => (p.1.kind, p.2.1, p.2.2)) (Row.nil w) ?_ (by simp) ?_ ?_
  · have := Row.owned hown
    rw [List.length_map]
    have e : trip (ps.map fun p => (p.1.kind, p.2.1, p.2.2)) = ps.flatMap thr := by unfold trip; rw [List.flatMap_map]
    rw [e]; exact this
  · intro i e q he hq
    rw [List.getElem?_map] at he hq
    cases h : ps[i]? with
    | none => rw [h] at he; simp at he
    | some p => rw [h] at he hq; simp at he hq; subst he hq; rfl
  · intro i e q he hq
    rw [List.getElem?_map] at he hq
    cases h : ps[i]? with
    | none => rw [h] at he; simp at he
    | some p => rw [h] at he hq; simp at he hq; subst he hq; exact hk p (List.mem_of_getElem? h)
structure RS (w0 w : World) (v : Value) (ps : List Rt) : Prop where
  own : ReO (fun k => w0.heap.size ≤ k) w w0.heap.size v ps
  bel : Below w0.heap.size w0 w
set_option maxRecDepth 100000 in
set_option maxHeartbeats 4000000 in
theorem res_any (F : List (List Int)) (vs : List Value) (v : Value) (w : World) (h : RowsI w v vs F) :
    Calls Tryz.prog 9 #[v] w fun e w' => ∃ u, e = .returned u ∧ ReIs w' (.mk 0 [] (Nf.resL F)) (.slice none 0 0) u ∧ Below w.heap.size w w' := by
  obtain ⟨ip, hp0, hp1, hp2, hp3⟩ := infoReM
  obtain ⟨o0, c0, rfl⟩ : ∃ o c, v = .slice o F.length c := by obtain ⟨o, c, e, _⟩ := h.row; exact ⟨o, c, e⟩
  have H := Lib.hid h
  have H0 := Lib.hid (show RS w w (.slice none 0 0) [] from ⟨Own.nil, Below.refl _ _⟩)
  clear h
  go_enter Tryz.func9, Tryz.ntmps9
  go_wp2_with fail
  go_loopg [3, 4] 4 (fun g s3 s4 wx => ∃ (k : Nat) (o : Option Addr) (c : Nat) (ps : List Rt), k + g = 4 ∧ k ≤ F.length ∧ s4 = .int .i64 (k : Int) ∧ s3 = .slice o k c ∧ RS w wx (.slice o k c) ps ∧ ps.map (·.1) = (F.take k).map M6.makeR)
  case atStart => exact ⟨0, none, 0, [], rfl, Nat.zero_le _, rfl, rfl, H0.out, by simp⟩
  case round =>
    obtain ⟨k, o, c, ps, hk, hkF, rfl, rfl, hS, hps⟩ := hrel
    have hpl : ps.length = k := by have := congrArg List.length hps; simp at this; omega
    by_cases hlt : k < F.length ∧ k < 4
    · obtain ⟨g1, hg1⟩ : ∃ g1, g1 + 1 = gk := ⟨gk - 1, by omega⟩
      obtain ⟨hlF, hl4⟩ := hlt
      have hd1 : decide ((k : Int) < (F.length : Int)) = true := by simp; omega
      have hd2 : decide ((k : Int) < 4) = true := by simp; omega
      have hjl : (k : Int) < (F.length : Int) := by omega
      obtain ⟨l, hl⟩ : ∃ l, F[k]? = some l := ⟨F[k], List.getElem?_eq_getElem hlF⟩
      obtain ⟨u, hu⟩ : ∃ u, vs[k]? = some u := ⟨vs[k]'(by rw [H.out.len]; exact hlF), List.getElem?_eq_getElem _⟩
      obtain ⟨b, off, rfl, hbl, hcl⟩ := adrow_at H.out.row hu hlF
      have hrow := H.out.each k u l hu hl
      obtain ⟨ol, cl, rfl⟩ := Row.form hrow
      rw [← hS.bel.cell (p := ⟨b, off + k, none⟩) hbl] at hcl
      have hmk := make6_any l ol cl wr (hrow.below hS.bel)
      have hbs := hS.bel.size
      have hown := hS.own.row
      rw [hpl] at hown
      have hnext : (F.take (k + 1)).map M6.makeR = (F.take k).map M6.makeR ++ [M6.makeR l] := by
        rw [List.take_add_one, hl]; simp
      have HMK := Lib.hid hmk
      have HS := Lib.hid hS
      have HPS := Lib.hid (And.intro hps (And.intro hpl hnext))
      have HOWN := Lib.hid hown
      clear hmk hS hps hpl hnext hown hrow hl hu
      go_wp2_with (first
        | (go_at_call 33; refine HMK.out.mono ?_; rintro x w3 ⟨s3, e3, rfl, hkp, hb3⟩
           obtain ⟨⟨of, cf, rfl⟩, ⟨og, cg, rfl⟩⟩ := hkp.here.form
           have hlt3 := hb3.size)
        | (at_builtin; refine wpList_append_far _ rfl _ _ 27 rfl w.heap.size 41 ip (.agg #[.int .i64 0, .slice none 0 0, .slice none 0 0]) 3 56 Tryz.underlying27 hp0 hp1 hp2 hp3 rfl (by decide) (.slice o k c) k (ps.flatMap thr) rfl (owns_below HOWN.out (bel_new hb3 _)) _ 1 [.int .i64 (M6.makeR l).kind, .slice of (M6.makeR l).set.length cf, .slice og (M6.makeR l).parts.length cg] rfl (afrow_new (size := 3) rfl (by simp)) rfl (by simp [Value.oneCell']) (by unfold maxLen; omega) (by omega) (by simp; omega) ?_; intro v8 w8 hown8 hg8 hf8 hb8))
      obtain ⟨o8, c8, rfl⟩ := Row.form (Row.owned hown8)
      have hX1 : Below wr.heap.size wr (w3.alloc (.cells #[.int .i64 (M6.makeR l).kind, .slice of (M6.makeR l).set.length cf, .slice og (M6.makeR l).parts.length cg] 41)) := bel_new hb3 _
      have hpush := (HS.out.own.moved hX1).push (w' := w8) (v' := .slice o8 (k + 1) c8) (p := (M6.makeR l, .slice of (M6.makeR l).set.length cf, .slice og (M6.makeR l).parts.length cg)) (by rw [HPS.out.2.1]; exact hown8) hg8 hf8
        ((hkp.to (.of (bel_new (Below.refl _ _) _))).sub fun j _ hj => ⟨by omega, fun e => by have := (HS.out.own.row.lt j e).2; omega⟩)
      have hbel8 : Below w.heap.size w w8 := by
        have h1 := HS.out.bel.trans (hX1.mono hbs)
        exact h1.grown hg8 (by have := hX1.size; omega) (fun j hj => (HS.out.own.row.lt j hj).1)
      have HP := Lib.hid (And.intro hpush hbel8)
      clear hpush hbel8 hX1 hown8 hg8 hf8 hb8 hkp hb3
      go_roundg g1
      case measure => omega
      case rel => exact ⟨k + 1, o8, c8, _, by omega, by omega, by simp, rfl, ⟨HP.out.1, HP.out.2⟩, by rw [HPS.out.2.2, ← HPS.out.1]; simp⟩
    · have HS := Lib.hid hS
      have HPS := Lib.hid hps
      by_cases hk0 : k = 0
      · subst hk0
        have hF0 : F.length = 0 := by omega
        have hd1 : decide (((0 : Nat) : Int) < (F.length : Int)) = false := by rw [hF0]; decide
        have hd3 : ((0 : Nat) : Int) = 0 := rfl
        clear hS hps
        go_wp2_with (go_at_call 34; refine (one_exact _ _).mono ?_; rintro e w2 ⟨rfl, rfl⟩)
        obtain ⟨W, hW⟩ : ∃ W, W = ((wr.alloc (.cells #[.int .i64 2, .slice (some ⟨wr.heap.size + 1, 0, none⟩) 1 1, .slice none 0 0] 41)).alloc (.cells #[.int .i32 97, .int .i32 97] 54)).alloc (.cells #[.int .i64 2, .slice (some ⟨wr.heap.size + 1, 0, none⟩) 1 1, .slice none 0 0] 41) := ⟨_, rfl⟩
        have hb1 : Below wr.heap.size wr W := by rw [hW]; exact bel_new (bel_new (bel_new (Below.refl _ _) _) _) _
        have q1 : W.heap[wr.heap.size + 1]? = some (.cells #[.int .i32 97, .int .i32 97] 54 (0, 0)) := by
          rw [hW, Below.heap_alloc _ _ _ (by simp)]
          have := heap_alloc_new (wr.alloc (.cells #[.int .i64 2, .slice (some ⟨wr.heap.size + 1, 0, none⟩) 1 1, .slice none 0 0] 41)) (.cells #[.int .i32 97, .int .i32 97] 54)
          rwa [World.size_alloc] at this
        have q2 : W.heap[wr.heap.size + 1 + 1]? = some (.cells #[.int .i64 2, .slice (some ⟨wr.heap.size + 1, 0, none⟩) 1 1, .slice none 0 0] 41 (0, 0)) := by
          rw [hW]
          have := heap_alloc_new ((wr.alloc (.cells #[.int .i64 2, .slice (some ⟨wr.heap.size + 1, 0, none⟩) 1 1, .slice none 0 0] 41)).alloc (.cells #[.int .i32 97, .int .i32 97] 54)) (.cells #[.int .i64 2, .slice (some ⟨wr.heap.size + 1, 0, none⟩) 1 1, .slice none 0 0] 41)
          rwa [World.size_alloc, World.size_alloc] at this
        have hre := reis_list (ps := [(M6.oneR 97, .slice (some ⟨wr.heap.size + 1, 0, none⟩) 1 1, .slice none 0 0)]) (afrow_block (n := 1) (size := 3) q2 rfl (by decide)) (fun p hp => by
          rw [List.mem_singleton] at hp
          subst hp
          exact six_leaf q1)
        rw [← hW]
        have HRE := Lib.hid hre
        have HB := Lib.hid hb1
        clear hre q1 q2 hb1 hW
        go_ret
        refine ⟨_, rfl, ?_, HS.out.bel.trans (HB.out.mono HS.out.bel.size)⟩
        unfold Nf.resL
        rw [if_pos hF0]
        exact HRE.out
      · have hk1 : ((k : Int) == 0) = false := by simp; omega
        have hre : ReIs wr (.mk 0 [] (Nf.resL F)) (.slice none 0 0) (.slice o k c) := by
          have h1 := reis_list (ps := ps) (by exact hS.own.row) (fun p hp => (hS.own.keep p hp).here)
          have e : Nf.resL F = ps.map (·.1) := by
            unfold Nf.resL
            rw [if_neg (by omega), hps]
            by_cases h4 : k < 4
            · have : k = F.length := by omega
              rw [this, List.take_of_length_le (Nat.le_refl _), List.take_of_length_le (by omega)]
            · have : k = 4 := by omega
              rw [this]
          rw [e]; exact h1
        have HRE := Lib.hid hre
        clear hS hps hre
        by_cases h4 : (k : Int) < (F.length : Int)
        · have hd2 : decide ((k : Int) < 4) = false := by simp; omega
          have hd3 : decide ((k : Int) < (F.length : Int)) = true := by simp; omega
          go_wp2_with fail
          go_ret
          exact ⟨_, rfl, HRE.out, HS.out.bel⟩
        · have hd3 : decide ((k : Int) < (F.length : Int)) = false := by simp; omega
          go_wp2_with fail
          go_ret
          exact ⟨_, rfl, HRE.out, HS.out.bel⟩
set_option maxHeartbeats 1000000 in
set_option maxRecDepth 1000000 in
theorem ints7_same (zs : List Int) (v u : Value) (w : World) (hr : Row w v zs.length (zs.map (Value.int .i64))) (hs : Row w u zs.length (zs.map (Value.int .i64))) (hl : zs.length ≤ 100000000) :
    Calls Tryz.prog 13 #[v, u] w fun e w' => e = .returned (.bool true) ∧ Below w.heap.size w w' := by
  obtain ⟨o, cap, rfl, hcap, hmax, hrow⟩ := hr
  obtain ⟨o2, cap2, rfl, hcap2, hmax2, hrow2⟩ := hs
  go_enter Tryz.func13, Tryz.ntmps13
  go_wp2
  go_loopw [5] (fun i wr => ∃ k : Nat, k ≤ zs.length ∧ i = .int .i64 k ∧ Below w.heap.size w wr)
    (fun i _ => zs.length - (intOf i).toNat)
  case atStart => exact ⟨0, Nat.zero_le _, rfl, Below.refl _ _⟩
  case round =>
    obtain ⟨k, hk, rfl, hbel⟩ := hrel
    by_cases hk2 : k < zs.length
    · rcases hrow with h0 | ⟨b, off, rfl, hlt, hc⟩
      · omega
      rcases hrow2 with h0 | ⟨b2, off2, rfl, hlt2, hc2⟩
      · omega
      obtain ⟨x, hx⟩ : ∃ x, x = zs.getD k 0 := ⟨_, rfl⟩
      have hcx : wr.cell? ⟨b, off + k, none⟩ = some (.int .i64 x) := by rw [hbel.cell hlt]; rw [hx]; exact hc k _ (getElem?_ints hk2)
      have hcx2 : wr.cell? ⟨b2, off2 + k, none⟩ = some (.int .i64 x) := by rw [hbel.cell hlt2]; rw [hx]; exact hc2 k _ (getElem?_ints hk2)
      clear hc hc2 hx
      go_wp2
      go_region
      all_goals (try go_wp2)
      all_goals go_roundw
      all_goals first
        | (case rel => exact ⟨k + 1, by omega, by go_num, by repeat (first | exact Below.refl _ _ | assumption | (refine Below.drew ?_) | (refine below_drewN ?_ _))⟩)
        | (case measure => simp [intOf]; omega)
    · go_wp2
      go_ret
      exact ⟨rfl, by repeat (first | exact Below.refl _ _ | assumption | (refine Below.drew ?_) | (refine below_drewN ?_ _))⟩
end Go.Proofs.YtmgfpcblbbpahaaGreat

namespace Go.Proofs.YtmgfpcblbbpahaaGreat
open Go.RowKit Ru

theorem cells_any {w : World} {pb : Nat} {S : List (List Pc)} {F E : List (List Int)} {C : List Pc} {so fo eo co : Option Addr} {sc fc ec cc : Nat} {ss fs es : List Value} (h : NIs w pb S F E C so fo eo co sc fc ec cc ss fs es) (hC : C.length ≤ 1000000) :
    Calls Tryz.prog 20 #[.pointer (some ⟨pb, 0, none⟩)] w fun e w' => ∃ u, e = .returned u ∧ w'.ownsRow w.heap.size 54 2 u C.length (flatK .i32 C) ∧ Below w.heap.size w w' := by
  have hcl := cloneR_any C _ w h.cells hC
  have HC := Lib.hid hcl
  have hc3 := h.c3
  clear h hcl
  go_enter Tryz.func20, Tryz.ntmps20
  go_wp2_with (go_at_call 47; refine HC.out.mono ?_; rintro e w' ⟨u, rfl, ho, hb⟩)
  go_ret
  exact ⟨u, rfl, ho, hb⟩
end Go.Proofs.YtmgfpcblbbpahaaGreat

namespace Go.Proofs.YtmgfpcblbbpahaaGreat
open Go.RowKit Ru

def Nf.tL : List RE := [M6.oneR 97]
theorem nt_s : Nf.mS Nf.tL = [[], [(97, 97)]] := by decide +kernel
theorem nt_e : Nf.mE Nf.tL = [[], [0]] := by decide +kernel
theorem nt_f : Nf.mF Nf.tL = [[1], []] := by decide +kernel
theorem nt_c : cutsF (Nf.mS Nf.tL) = [(97, 97)] := by decide +kernel
theorem nt_n0 : nextL [[], [(97, 97)]] [[1], []] [0] 97 = [1] := by decide +kernel
theorem nt_n1 : nextL [[], [(97, 97)]] [[1], []] [1] 97 = [] := by decide +kernel
theorem nt_r1 : Nf.gat [[], [0]] [1] = [0] := by decide +kernel
theorem nt_r2 : Nf.gat [[], [0]] [0, 7] = [] := by decide +kernel
theorem row_lit {w : World} {cs : List Value} {n : Nat} (hn : cs.length = n) (hm : n ≤ 1000) : Row (w.alloc (.cells cs.toArray 3)) (.slice (some ⟨w.heap.size, 0, none⟩) n n) n cs := by
  have := Row.owned (afrow_block (w := w.alloc (.cells cs.toArray 3)) (g := w.heap.size) (n := n) (size := 1) (heap_alloc_new w _) (by simpa using hn) (by unfold maxLen; omega))
  simpa using this
theorem reis_nil (w : World) : ReIs w (.mk 0 [] []) (.slice none 0 0) (.slice none 0 0) := .mk 0 [] [] _ _ [] (Row.nil w) (Row.nil w) rfl (fun i e p h => by simp at h) (fun i e p h => by simp at h)
theorem fit_list {l : List RE} (h : ∀ e ∈ l, e.Fit) (hl : l.length ≤ 1000) : (RE.mk 0 [] l).Fit := .mk 0 [] l (fun p hp => by simp at hp) (by simp) hl (fun i e he => h e (List.mem_of_getElem? he))
theorem tL_fit : (RE.mk 0 [] Nf.tL).Fit := fit_list (fun e he => by unfold Nf.tL at he; rw [List.mem_singleton] at he; subst he; exact (M6.g6_one (by decide)).fit) (by decide)
theorem tL_takes : Nf.takes (RE.mk 0 [] Nf.tL).parts = true := by decide +kernel
theorem one_list (wr W : World) (hW : W = ((wr.alloc (.cells #[.int .i64 2, .slice (some ⟨wr.heap.size + 1, 0, none⟩) 1 1, .slice none 0 0] 41)).alloc (.cells #[.int .i32 97, .int .i32 97] 54)).alloc (.cells #[.int .i64 2, .slice (some ⟨wr.heap.size + 1, 0, none⟩) 1 1, .slice none 0 0] 41)) :
    ReIs W (.mk 0 [] Nf.tL) (.slice none 0 0) (.slice (some ⟨wr.heap.size + 1 + 1, 0, none⟩) 1 1) ∧ Below wr.heap.size wr W := by
  have hb1 : Below wr.heap.size wr W := by rw [hW]; exact bel_new (bel_new (bel_new (Below.refl _ _) _) _) _
  have q1 : W.heap[wr.heap.size + 1]? = some (.cells #[.int .i32 97, .int .i32 97] 54 (0, 0)) := by
    rw [hW, Below.heap_alloc _ _ _ (by simp)]
    have := heap_alloc_new (wr.alloc (.cells #[.int .i64 2, .slice (some ⟨wr.heap.size + 1, 0, none⟩) 1 1, .slice none 0 0] 41)) (.cells #[.int .i32 97, .int .i32 97] 54)
    rwa [World.size_alloc] at this
  have q2 : W.heap[wr.heap.size + 1 + 1]? = some (.cells #[.int .i64 2, .slice (some ⟨wr.heap.size + 1, 0, none⟩) 1 1, .slice none 0 0] 41 (0, 0)) := by
    rw [hW]
    have := heap_alloc_new ((wr.alloc (.cells #[.int .i64 2, .slice (some ⟨wr.heap.size + 1, 0, none⟩) 1 1, .slice none 0 0] 41)).alloc (.cells #[.int .i32 97, .int .i32 97] 54)) (.cells #[.int .i64 2, .slice (some ⟨wr.heap.size + 1, 0, none⟩) 1 1, .slice none 0 0] 41)
    rwa [World.size_alloc, World.size_alloc] at this
  exact ⟨reis_list (ps := [(M6.oneR 97, .slice (some ⟨wr.heap.size + 1, 0, none⟩) 1 1, .slice none 0 0)]) (afrow_block (n := 1) (size := 3) q2 rfl (by decide)) (fun p hp => by
    rw [List.mem_singleton] at hp
    subst hp
    exact six_leaf q1), hb1⟩
set_option maxRecDepth 100000 in
set_option maxHeartbeats 8000000 in
theorem told7_any (w : World) : Calls Tryz.prog 10 #[] w fun e w' => e = .returned (.bool true) ∧ Below w.heap.size w w' := by
  go_enter Tryz.func10, Tryz.ntmps10
  go_wp2_with (go_at_call 34; refine (one_exact _ _).mono ?_; rintro e w2 ⟨rfl, rfl⟩)
  obtain ⟨W, hW⟩ : ∃ W, W = ((w.alloc (.cells #[.int .i64 2, .slice (some ⟨w.heap.size + 1, 0, none⟩) 1 1, .slice none 0 0] 41)).alloc (.cells #[.int .i32 97, .int .i32 97] 54)).alloc (.cells #[.int .i64 2, .slice (some ⟨w.heap.size + 1, 0, none⟩) 1 1, .slice none 0 0] 41) := ⟨_, rfl⟩
  obtain ⟨hre, hbW⟩ := one_list w W hW
  rw [← hW]
  clear hW
  refine (build_any _ _ _ W hre tL_fit tL_takes).mono ?_
  rintro x w2 ⟨pb, so, fo, eo, co, sc, fc, ec, cc, ss, fs, es, rfl, hn, hb2, hpb⟩
  rw [show (RE.mk 0 [] Nf.tL).parts = Nf.tL from rfl, nt_c, nt_s, nt_f, nt_e] at hn
  have HB2 := Lib.hid (bel_then hbW hb2)
  clear hre hbW hb2 hpb
  have HN := Lib.hid hn
  clear hn
  go_wp2_with fail
  refine (build_bad _ _ _ w2 (reis_nil w2) (fit_list (l := []) (fun e he => by simp at he) (by simp)) (by decide +kernel)).mono ?_
  rintro x w3 ⟨rfl, hb3⟩
  have HB3 := Lib.hid hb3
  clear hb3
  go_wp2_with fail
  have hx0 := next_any (HN.out.moved (bel_then HB3.out (bel_new (Below.refl _ _) (.cells #[.int .i64 0] 3)))) [0] (some ⟨w3.heap.size, 0, none⟩) 1 (row_lit (w := w3) (cs := [.int .i64 0]) (n := 1) rfl (by omega)) (by decide) 97
  rw [nt_n0] at hx0
  refine hx0.mono ?_
  rintro x w4 ⟨u4, rfl, hu4, hb4⟩
  have hb4' : Below w3.heap.size w3 w4 := bel_then (bel_new (Below.refl _ _) _) hb4
  have HB4 := Lib.hid hb4'
  obtain ⟨o4, c4, rfl⟩ := nf_slice hu4
  have hr4 := Row.owned hu4
  clear hb4 hb4' hu4 hx0
  have HR4 := Lib.hid hr4
  obtain ⟨b4, f4, rfl, hl4, hc4⟩ := adrow_at (i := 0) hr4 (u := .int .i64 1) rfl (by decide)
  clear hr4
  rw [show [(1 : Int)].length = 1 from rfl]
  have hx5 := rules_any (HN.out.moved (bel_then HB3.out HB4.out)) [1] (some ⟨b4, f4, none⟩) c4 HR4.out (by decide)
  rw [nt_r1] at hx5
  have HX5 := Lib.hid hx5
  clear hx5
  go_wp2_with fail
  refine HX5.out.mono ?_
  rintro x w5 ⟨u5, rfl, hu5, hb5⟩
  have HB5 := Lib.hid hb5
  obtain ⟨o5, c5, rfl⟩ := nf_slice hu5
  have hr5 := Row.owned hu5
  clear hu5 hb5
  have HR5 := Lib.hid hr5
  obtain ⟨b5, f5, rfl, hl5, hc5⟩ := adrow_at (i := 0) hr5 (u := .int .i64 0) rfl (by decide)
  clear hr5
  rw [show [(0 : Int)].length = 1 from rfl]
  rw [← HB5.out.cell hl4] at hc4
  rw [Nat.add_zero] at hc4 hc5
  have hlen := len_any (HN.out.moved (bel_then HB3.out (bel_then HB4.out HB5.out)))
  have HL := Lib.hid hlen
  clear hlen
  go_wp2_with fail
  refine HL.out.mono ?_
  rintro x w6 ⟨rfl, rfl⟩
  rw [show (([[], [(97, 97)]] : List (List Pc)).length : Int) = 2 from rfl]
  have hx7 := next_any (HN.out.moved (bel_then HB3.out (bel_then HB4.out HB5.out))) [1] (some ⟨b4, f4, none⟩) c4 (HR4.out.below HB5.out) (by decide) 97
  rw [nt_n1] at hx7
  have HX7 := Lib.hid hx7
  clear hx7
  go_wp2_with fail
  refine HX7.out.mono ?_
  rintro x w7 ⟨u7, rfl, hu7, hb7⟩
  have HB7 := Lib.hid hb7
  obtain ⟨o7, c7, rfl⟩ := nf_slice hu7
  clear hu7 hb7
  rw [show ([] : List Int).length = 0 from rfl]
  have hx8 := cells_any (HN.out.moved (bel_then HB3.out (bel_then HB4.out (bel_then HB5.out HB7.out)))) (by decide)
  have HX8 := Lib.hid hx8
  clear hx8
  go_wp2_with fail
  refine HX8.out.mono ?_
  rintro x w8 ⟨u8, rfl, hu8, hb8⟩
  have HB8 := Lib.hid hb8
  obtain ⟨o8, c8, rfl⟩ := Row.form (Row.owned hu8)
  clear hu8 hb8
  rw [show ([(97, 97)] : List Pc).length = 1 from rfl]
  have hx9 := rules_any ((HN.out.moved (bel_then HB3.out (bel_then HB4.out (bel_then HB5.out (bel_then HB7.out HB8.out))))).moved (bel_new (Below.refl _ _) (.cells #[.int .i64 0, .int .i64 7] 3))) [0, 7] (some ⟨w8.heap.size, 0, none⟩) 2 (row_lit (w := w8) (cs := [.int .i64 0, .int .i64 7]) (n := 2) rfl (by omega)) (by decide)
  rw [nt_r2] at hx9
  have HX9 := Lib.hid hx9
  clear hx9
  go_wp2_with fail
  refine HX9.out.mono ?_
  rintro x w9 ⟨u9, rfl, hu9, hb9⟩
  have HB9 := Lib.hid (show Below w8.heap.size w8 w9 from bel_then (bel_new (Below.refl _ _) _) hb9)
  obtain ⟨o9, c9, rfl⟩ := nf_slice hu9
  clear hu9 hb9
  rw [show ([] : List Int).length = 0 from rfl]
  go_wp2_with fail
  refine (len_nil w9).mono ?_
  rintro x w10 ⟨rfl, rfl⟩
  go_wp2_with fail
  refine (next_nil _ 97 _).mono ?_
  rintro x w11 ⟨rfl, hb11⟩
  have HB11 := Lib.hid hb11
  clear hb11
  go_wp2_with fail
  go_ret
  exact ⟨rfl, bel_then HB2.out (bel_then HB3.out (bel_then HB4.out (bel_then HB5.out (bel_then HB7.out (bel_then HB8.out (bel_then HB9.out (bel_then (bel_new (Below.refl _ _) _) HB11.out)))))))⟩
end Go.Proofs.YtmgfpcblbbpahaaGreat

namespace Go.Proofs.YtmgfpcblbbpahaaGreat
open Go.RowKit Ru

namespace Nf
theorem resL_all (F : List (List Int)) : (∀ e ∈ resL F, M6.G6 e ∧ e.may = true ∧ e.size ≤ 29) ∧ 1 ≤ (resL F).length ∧ (resL F).length ≤ 4 := by
  unfold resL
  split
  · exact ⟨fun e he => by rw [List.mem_singleton] at he; subst he; exact ⟨M6.g6_one (by decide), by decide +kernel, by decide +kernel⟩, by simp, by simp⟩
  · refine ⟨fun e he => ?_, by simp; omega, by simp; omega⟩
    obtain ⟨l, _, rfl⟩ := List.mem_map.1 he
    exact M6.makeR_ok l
theorem resL_fit (F : List (List Int)) : (RE.mk 0 [] (resL F)).Fit := fit_list (fun e he => ((resL_all F).1 e he).1.fit) (by have := (resL_all F).2.2; omega)
theorem resL_takes (F : List (List Int)) : takes (RE.mk 0 [] (resL F)).parts = true := by
  have h := resL_all F
  show takes (resL F) = true
  unfold takes
  simp only [Bool.and_eq_true, decide_eq_true_eq]
  exact ⟨⟨h.2.1, by omega⟩, List.all_eq_true.2 fun e he => (h.1 e he).2.1⟩
theorem mem_next (S : List (List Pc)) (F : List (List Int)) (l : List Int) (r x : Int) : x ∈ nextL S F l r ↔ (∃ s, s ∈ l ∧ 0 ≤ s ∧ s < (F.length : Int) ∧ x ∈ F.getD s.toNat []) ∧ has (S.getD x.toNat []) r = true := by
  unfold nextL
  rw [List.mem_filter, mem_gat]
  simp
theorem next_asc (S : List (List Pc)) (F : List (List Int)) (l : List Int) (r : Int) : (nextL S F l r).Pairwise (· < ·) := (ord_lt _).filter _
theorem next_len (S : List (List Pc)) (F : List (List Int)) (hfit : ∀ r ∈ F, ∀ x ∈ r, 0 ≤ x ∧ x < (S.length : Int)) (l : List Int) (r : Int) : (nextL S F l r).length ≤ S.length := by
  refine asc_len (next_asc S F l r) S.length fun x hx => ?_
  obtain ⟨⟨s, _, _, _, h2⟩, _⟩ := (mem_next S F l r x).1 hx
  rw [List.getD_eq_getElem?_getD] at h2
  cases e : F[s.toNat]? with
  | none => rw [e] at h2; simp at h2
  | some q => rw [e] at h2; exact hfit q (List.mem_of_getElem? e) x h2
end Nf
end Go.Proofs.YtmgfpcblbbpahaaGreat
