/- gobolaw7.NfaMakes: the walk. -/
import Derived.Test.YtmgfpcblbbpahaaGreatNfRbd
import Derived.Deep.RegionHeld3
import Derived.Deep.AppendLies
import Derived.Deep.RegionLaw
import Derived.Deep.QuietTactic
import Derived.BigQuiet
set_option linter.unusedVariables false
set_option linter.unusedSimpArgs false
namespace Go.Proofs.YtmgfpcblbbpahaaGreat
open Go.RowKit Ru

theorem gaps_len (P : List Pc) : ∀ l : List Int, (gaps P l).length ≤ l.length
  | [] => by simp [gaps]
  | [x] => by simp [gaps]
  | x :: y :: l => by
    have ih := gaps_len P (y :: l)
    unfold gaps
    split
    · simp at ih ⊢; omega
    · simp at ih ⊢; omega
theorem insD_len (x : Int) : ∀ l : List Int, (insD x l).length ≤ l.length + 1
  | [] => by simp [insD]
  | y :: l => by
    have ih := insD_len x l
    unfold insD
    split
    · simp
    · split
      · simp
      · simp; omega
theorem srtD_len (l : List Int) : (srtD l).length ≤ l.length := by
  have h : ∀ (l s : List Int), (l.foldl (fun s x => insD x s) s).length ≤ l.length + s.length := by
    intro l
    induction l with
    | nil => intro s; simp
    | cons x l ih =>
      intro s
      have h1 := ih (insD x s)
      have h2 := insD_len x s
      rw [List.foldl_cons, List.length_cons]; omega
  have := h l []
  simpa [srtD] using this
theorem ends_len : ∀ P : List Pc, (ends P).length = 2 * P.length
  | [] => rfl
  | q :: P => by simp [ends, ends_len P]; omega
theorem srt_len : ∀ l : List Pc, (srt l).length = l.length := by
  have hi : ∀ (p : Pc) (l : List Pc), (ins p l).length = l.length + 1 := by
    intro p l
    induction l with
    | nil => simp [ins]
    | cons q l ih => unfold ins; split <;> simp [ih]
  intro l
  induction l with
  | nil => rfl
  | cons p l ih => unfold srt; rw [hi, ih]; rfl
theorem pcs_len (s : List Pc) : (pcs s).length ≤ s.length := by
  unfold pcs raw
  refine Nat.le_trans (merge_len _) ?_
  rw [srt_len]
  exact Nat.le_trans (List.length_filter_le _ _) (by simp)
theorem cutsF_len (S : List (List Pc)) (K : Nat) (h : ∀ s ∈ S, s.length ≤ K) : (cutsF S).length ≤ 2 * (S.length * K) := by
  have hP : (S.flatMap pcs).length ≤ S.length * K := by
    induction S with
    | nil => simp
    | cons s S ih =>
      have h1 := ih (fun q hq => h q (by simp [hq]))
      have h2 := pcs_len s
      have h3 := h s (by simp)
      rw [List.flatMap_cons, List.length_append, List.length_cons, Nat.succ_mul]; omega
  unfold cutsF rngs cutF
  rw [List.length_map]
  have h1 := gaps_len (S.flatMap pcs) (srtD (ends (S.flatMap pcs)))
  have h2 := srtD_len (ends (S.flatMap pcs))
  rw [ends_len] at h2
  omega
namespace Nf
theorem sts_short : ∀ (N : Nat) (e : RE), e.size ≤ N → e.prt = true → ∀ s ∈ sts e, s.length ≤ 20 := by
  intro N
  induction N with
  | zero => intro e h; have := e.size_pos; omega
  | succ N ih =>
    intro e h hp
    cases e with
    | mk k s l =>
      rw [RE.size_mk] at h
      rw [sts_mk]
      rcases prt_cases hp with ⟨rfl, rfl⟩ | ⟨rfl, rfl⟩ | ⟨rfl, rfl, _, h20⟩ | ⟨rfl, a, rfl, ha⟩ | ⟨hk, a, b, rfl, ha, hb⟩
      · simp [stsL_nil]
      · simp [stsL_nil]
      · intro q hq
        rw [if_pos rfl, stsL_nil, List.mem_singleton] at hq
        subst hq; exact h20
      · rw [RE.sizes_cons, RE.sizes_nil] at h
        have := ih a (by omega) ha
        simpa [stsL_cons, stsL_nil] using this
      · rw [RE.sizes_cons, RE.sizes_cons, RE.sizes_nil] at h
        have h1 := ih a (by omega) ha
        have h2 := ih b (by omega) hb
        have k2 : ¬ k = 2 := by omega
        intro q hq
        rw [if_neg k2, stsL_cons, stsL_cons, stsL_nil, List.append_nil, List.mem_append] at hq
        exact hq.elim (h1 q) (h2 q)
theorem stsL_short (l : List RE) (hp : ∀ e ∈ l, e.prt = true) : ∀ s ∈ stsL l, s.length ≤ 20 := by
  induction l with
  | nil => rw [stsL_nil]; simp
  | cons e l ih =>
    intro s hs
    rw [stsL_cons, List.mem_append] at hs
    rcases hs with hs | hs
    · exact sts_short e.size e (Nat.le_refl _) (hp e (by simp)) s hs
    · exact ih (fun e he => hp e (by simp [he])) s hs
theorem mS_cells (l : List RE) (h : ∀ e ∈ l, e.may = true) (hl : l.length ≤ 16) : (cutsF (mS l)).length ≤ 40000 := by
  have hp : ∀ e ∈ l, e.prt = true ∧ e.size ≤ 60 := fun e he => by
    have := (RE.may_iff e).1 (h e he)
    exact ⟨this.2.2, this.1⟩
  have h1 : ∀ s ∈ mS l, s.length ≤ 20 := by
    intro s hs
    unfold mS at hs
    rcases List.mem_cons.1 hs with rfl | hs
    · simp
    · exact stsL_short l (fun e he => (hp e he).1) s hs
  have h2 := cutsF_len (mS l) 20 h1
  have h3 := stsL_size l hp
  have h4 : (mS l).length = 1 + (stsL l).length := by unfold mS; simp; omega
  omega
end Nf
end Go.Proofs.YtmgfpcblbbpahaaGreat

namespace Go.Proofs.YtmgfpcblbbpahaaGreat
open Go.RowKit Ru Rn Rn.Ru

namespace Nf
theorem mem_mFr (l : List RE) (q : Nat) (x : Int) : x ∈ (mF l).getD q [] ↔ x ∈ (mB l).F.getD q [] := by
  unfold mF
  rw [List.getD_eq_getElem?_getD, List.getD_eq_getElem?_getD, List.getElem?_map]
  cases h : (mB l).F[q]? with
  | none => simp
  | some r => simp [mem_ord]
theorem dm_F (l : List RE) (hl : ∀ e ∈ l, e.prt = true ∧ e.size ≤ 60) : (dm l).F.set 0 (dm l).Fi = mF l := by
  have hd := dm_ok l hl l.length (Nat.le_refl _)
  have hb := bl_ok l hl l.length (Nat.le_refl _)
  rw [List.take_length] at hd hb
  have hlF := hd.lenF
  have hlB := hb.lf
  have hF0 : 0 < (dm l).F.length := by show 0 < (dl l d0).F.length; omega
  refine List.ext_getElem ?_ fun i h1 h2 => ?_
  · unfold mF mB; rw [List.length_set, List.length_map]
    show (dl l d0).F.length = _
    omega
  · have h1' : i < (dl l d0).F.length := by simpa [List.length_set] using h1
    have hasc : ((mF l)[i]).Pairwise (· < ·) := by
      obtain ⟨r, _, e⟩ := List.mem_map.1 (show (mF l)[i] ∈ (mB l).F.map ordL from List.getElem_mem h2)
      rw [← e]; exact ord_lt _
    have hmem : ∀ z, z ∈ (mF l)[i] ↔ z ∈ (mB l).F.getD i [] := fun z => by
      rw [← mem_mFr l i z, List.getD_eq_getElem?_getD, List.getElem?_eq_getElem h2]; rfl
    have hrow : ((dm l).F.set 0 (dm l).Fi)[i] = if i = 0 then (dl l d0).Fi else (dl l d0).F.getD i [] := by
      rw [List.getElem_set]
      by_cases h : i = 0
      · subst h; simp
      · rw [if_neg (fun e => h e.symm), if_neg h, List.getD_eq_getElem?_getD, List.getElem?_eq_getElem h1']; rfl
    rw [hrow]
    by_cases h : i = 0
    · subst h
      rw [if_pos rfl]
      exact asc_ext (ris_pw _ _ hd.fok.1) hasc fun z => by rw [hmem z]; exact hd.r0 z
    · rw [if_neg h]
      have hq : (dl l d0).F.getD i [] ∈ (dl l d0).F := by rw [List.getD_eq_getElem?_getD, List.getElem?_eq_getElem h1']; simp
      exact asc_ext (ris_pw _ _ (hd.rok _ hq).1) hasc fun z => by rw [hmem z]; exact hd.r1 i (by omega) z
theorem all_prt {l : List RE} (h : ∀ e ∈ l, e.may = true) : ∀ e ∈ l, e.prt = true ∧ e.size ≤ 60 := fun e he => by
  have := (RE.may_iff e).1 (h e he)
  exact ⟨this.2.2, this.1⟩
theorem mF_len (l : List RE) (h : ∀ e ∈ l, e.may = true) : (mF l).length = (mS l).length := by
  have hb := bl_ok l (all_prt h) l.length (Nat.le_refl _)
  rw [List.take_length] at hb
  have := hb.lf
  unfold mF mB mS; rw [List.length_map, List.length_cons]; omega
theorem mF_fit (l : List RE) (h : ∀ e ∈ l, e.may = true) : ∀ r ∈ mF l, DnOk (mS l).length r := by
  have hd := dm_ok l (all_prt h) l.length (Nat.le_refl _)
  rw [List.take_length] at hd
  have hlF := hd.lenF
  have hlS : (mS l).length = (dl l d0).F.length := by unfold mS; rw [List.length_cons]; omega
  rw [← dm_F l (all_prt h), hlS]
  intro r hr
  rcases List.mem_or_eq_of_mem_set hr with h1 | rfl
  · exact hd.rok r h1
  · exact hd.fok
end Nf
theorem ris_of {w w' : World} {l : List RE} {pb g c : Nat} {T : Nat → Prop} {vS vO v2 vL v5 : Value} {ss fs : List Value} (h : ∀ e ∈ l, e.may = true) (hfit : ∀ e ∈ l, e.Fit) (hl : l.length ≤ 16)
    (hb : RB w w' pb T vS vO v2 vL (.slice (some ⟨g, 0, none⟩) (Nf.dm l).F.length c) v5 ss fs (Nf.mS l) ⟨(Nf.dm l).F.set 0 (Nf.dm l).Fi, (Nf.dm l).Fi, (Nf.dm l).O, (Nf.dm l).L, (Nf.dm l).Em⟩) :
    ∃ so oo lo fo eo sc oc lc fc ec, RIs w' pb (Nf.mS l) (Nf.dm l).O (Nf.dm l).L (Nf.mF l) (Nf.dm l).Em so oo lo fo eo sc oc lc fc ec ss fs := by
  have hd := Nf.dm_ok l (Nf.all_prt h) l.length (Nat.le_refl _)
  rw [List.take_length] at hd
  have hlF : (Nf.dm l).F.length = (Nf.mF l).length := by rw [← Nf.dm_F l (Nf.all_prt h), List.length_set]
  rw [Nf.dm_F l (Nf.all_prt h), hlF] at hb
  have hr := hb.rn
  obtain ⟨so, sc, e1⟩ := nf_slice hr.sets
  obtain ⟨oo, oc, e2⟩ := nf_slice hr.ofs
  obtain ⟨lo, lc, e3⟩ := nf_slice hr.last
  obtain ⟨eo, ec, e5⟩ := nf_slice hb.em
  subst e1 e2 e3 e5
  obtain ⟨g0, g1, g2, g3, g4, g5⟩ := n_cells hr.blk
  have hsz := Nf.stsL_size l (Nf.all_prt h)
  have hS : (Nf.mS l).length ≤ 1000 := by
    unfold Nf.mS; rw [List.length_cons]
    have : l.length * 60 ≤ 16 * 60 := Nat.mul_le_mul_right _ hl
    omega
  have hlE := hd.lenE
  have hlS : (Nf.mS l).length = 1 + (Nf.stsL l).length := by unfold Nf.mS; rw [List.length_cons]; omega
  refine ⟨so, oo, lo, some ⟨g, 0, none⟩, eo, sc, oc, lc, c, ec, hr.low.2, g0, g1, g3, g4, g5, ⟨hr.sl, Row.owned hr.sets, fun i hi => (hr.sr i hi).below hr.bel⟩, Row.owned hr.ofs, Row.owned hr.last, ⟨hr.fol.len, Row.owned hr.fol.tab, fun i hi => Row.owned (hr.fol.own i hi)⟩, Row.owned hb.em, hr.lenO, hr.lenL, hr.lenF, hS, ⟨fun s hs => ?_, fun r hr => ?_⟩, fun r hr x hx => (Nf.mF_fit l h r hr).in x hx, ?_, fun p h1 h2 => ?_⟩
  · unfold Nf.mS at hs
    rcases List.mem_cons.1 hs with rfl | hs
    · simp
    · exact (Nf.stsL_fit l (fun e he => ⟨(Nf.all_prt h e he).1, hfit e he⟩) s hs).2
  · have := (Nf.mF_fit l h r hr).len; omega
  · show (Nf.dl l Nf.d0).Em.length ≤ 100; omega
  · exact hd.fit p h1 (by omega)
theorem rnext_eq (l : List RE) (h : ∀ e ∈ l, e.may = true) (on : List Int) (r : Int) : dnOut (Nf.mS l) (Nf.mF l) r on = nextL (Nf.mS l) (Nf.mF l) on r :=
  dn_next (Nf.mS l) (Nf.mF l) r on (Nf.mF_len l h) fun f hf y hy => (Nf.mF_fit l h f hf).in y hy
theorem rrules_eq (l : List RE) (h : ∀ e ∈ l, e.may = true) (on : List Int) : rlOut (Nf.mS l).length (Nf.dm l).O (Nf.dm l).L (Nf.dm l).Em on = Nf.gat (Nf.mE l) on := by
  have hd := Nf.dm_ok l (Nf.all_prt h) l.length (Nat.le_refl _)
  have hb := Nf.bl_ok l (Nf.all_prt h) l.length (Nat.le_refl _)
  rw [List.take_length] at hd hb
  have hlS : (Nf.mS l).length = 1 + (Nf.stsL l).length := by unfold Nf.mS; rw [List.length_cons]; omega
  exact rl_rules _ _ _ _ _ on (by omega) (by rw [hlS]; exact hb.le) (fun p h1 h2 => hd.fit p h1 (by omega)) hd.e0 (fun p h1 h2 z => hd.e1 p (by omega) z)
theorem mS_pcs (l : List RE) (h : ∀ e ∈ l, e.may = true) (hl : l.length ≤ 16) : ((Nf.mS l).flatMap pcs).length ≤ 40000 := by
  have hsz := Nf.stsL_size l (Nf.all_prt h)
  have hS : (Nf.mS l).length ≤ 961 := by
    unfold Nf.mS; rw [List.length_cons]
    have : l.length * 60 ≤ 16 * 60 := Nat.mul_le_mul_right _ hl
    omega
  have hk : ∀ s ∈ Nf.mS l, s.length ≤ 20 := fun s hs => by
    unfold Nf.mS at hs
    rcases List.mem_cons.1 hs with rfl | hs
    · simp
    · exact Nf.stsL_short l (fun e he => (Nf.all_prt h e he).1) s hs
  have : ∀ (S : List (List Pc)), (∀ s ∈ S, s.length ≤ 20) → (S.flatMap pcs).length ≤ S.length * 20 := by
    intro S
    induction S with
    | nil => intro _; simp
    | cons s S ih =>
      intro hS
      rw [List.flatMap_cons, List.length_append, List.length_cons, Nat.succ_mul]
      have h1 := hS s (by simp)
      have h2 := ih fun q hq => hS q (by simp [hq])
      have h3 := pcs_len s
      omega
  have := this _ hk
  omega
end Go.Proofs.YtmgfpcblbbpahaaGreat

namespace Go.Proofs.YtmgfpcblbbpahaaGreat
open Go.RowKit Ru

inductive FT where
  | leaf (q : Nat) (f : Bool)
  | one (q : Nat) (f : Bool) (a : FT)
  | two (q : Nat) (f : Bool) (a b : FT)
namespace FT
def q : FT → Nat | leaf q _ => q | one q _ _ => q | two q _ _ _ => q
def f : FT → Bool | leaf _ f => f | one _ f _ => f | two _ f _ _ => f
end FT
def NodeF (w0 w : World) (q : Nat) (e : RE) (f : Bool) (qs : List Nat) : Prop :=
  ∃ sv pv, w.heap[q]? = some (.cells #[.int .i64 e.kind, sv, pv, .bool e.emp, .bool f] 76 (0, 0)) ∧ w0.heap.size ≤ q ∧ Row w0 sv e.set.length (flatK .i32 e.set) ∧ w.ownsRow w0.heap.size 72 1 pv qs.length (ptrs qs)
section
variable {w0 w w' : World} {q : Nat} {e : RE} {f : Bool} {qs L : List Nat} {t : FT}
theorem NodeF.cells (h : NodeF w0 w q e f qs) : w.cell? ⟨q, 3, none⟩ = some (.bool e.emp) ∧ w.cell? ⟨q, 4, none⟩ = some (.bool f) ∧ w.frozen? ⟨q, 4, none⟩ = false := by
  obtain ⟨sv, pv, h1, _⟩ := h
  simp [World.cell?, World.frozen?, h1]
end
end Go.Proofs.YtmgfpcblbbpahaaGreat

namespace Go.Proofs.YtmgfpcblbbpahaaGreat
open Go.RowKit Ru

end Go.Proofs.YtmgfpcblbbpahaaGreat

namespace Go.Proofs.YtmgfpcblbbpahaaGreat
open Go.RowKit Ru

structure NX (w0 w : World) (q : Nat) (e : RE) (f : Bool) (qs : List Nat) (o : Option Addr) (c g pc : Nat) : Prop where
  hp : w.heap[q]? = some (.cells #[.int .i64 e.kind, .slice o e.set.length c, .slice (some ⟨g, 0, none⟩) qs.length pc, .bool e.emp, .bool f] 76 (0, 0))
  low : w0.heap.size ≤ q
  row : Row w0 (.slice o e.set.length c) e.set.length (flatK .i32 e.set)
  own : w.ownsRow w0.heap.size 72 1 (.slice (some ⟨g, 0, none⟩) qs.length pc) qs.length (ptrs qs)
section
variable {w0 w w' : World} {q : Nat} {e : RE} {f : Bool} {qs L : List Nat} {o : Option Addr} {c g pc : Nat}
theorem NX.cells (h : NX w0 w q e f qs o c g pc) : (w.cell? ⟨q, 0, none⟩ = some (.int .i64 e.kind) ∧ w.cell? ⟨q, 2, none⟩ = some (.slice (some ⟨g, 0, none⟩) qs.length pc) ∧ w.cell? ⟨q, 3, none⟩ = some (.bool e.emp) ∧ w.cell? ⟨q, 4, none⟩ = some (.bool f) ∧ w.frozen? ⟨q, 4, none⟩ = false) := by
  have h1 := h.hp
  simp [World.cell?, World.frozen?, h1]
theorem NX.part (h : NX w0 w q e f qs o c g pc) {i x : Nat} (hi : qs[i]? = some x) : w.cell? ⟨g, i, none⟩ = some (.pointer (some ⟨x, 0, none⟩)) := by
  have := h.own.cells (g := g) (by simp [Value.ownBlock]) i (.pointer (some ⟨x, 0, none⟩)) (by simp [ptrs, hi])
  have e1 : ((⟨g, 0, none⟩ : Addr).add i) = ⟨g, i, none⟩ := by unfold Addr.add; by_cases e : i = 0 <;> simp [e]
  rwa [e1] at this
end
end Go.Proofs.YtmgfpcblbbpahaaGreat

namespace Go.Proofs.YtmgfpcblbbpahaaGreat
open Go.RowKit Ru

abbrev i32R (s : List Int) : List Value := s.map (Value.int .i32)
def rnF (z : Int) : Int := 97 + bits BinOp.and IntKind.i64 z 3
theorem bits_three (z : Int) : 0 ≤ bits BinOp.and IntKind.i64 z 3 ∧ bits BinOp.and IntKind.i64 z 3 ≤ 3 := by
  have h : ((BitVec.ofInt 64 z) &&& (BitVec.ofInt 64 3)).toNat = (BitVec.ofInt 64 z).toNat % 4 := by
    rw [BitVec.toNat_and]; exact Nat.and_two_pow_sub_one_eq_mod _ 2
  have e : bits BinOp.and IntKind.i64 z 3 = IntKind.i64.wrap ((((BitVec.ofInt 64 z) &&& (BitVec.ofInt 64 3)).toNat : Nat) : Int) := rfl
  rw [e, h]
  have h4 := Nat.mod_lt (BitVec.ofInt 64 z).toNat (show 0 < 4 by omega)
  obtain ⟨m, hm⟩ : ∃ m, m = (BitVec.ofInt 64 z).toNat % 4 := ⟨_, rfl⟩
  rw [← hm] at h4 ⊢
  rw [IntKind.wrap_i64]
  omega
def txF (l : List Int) (m : Nat) : List Int := (l.take m).map rnF
theorem infoI32 : ∃ i, Tryz.prog.info? 21 = some i ∧ i.zero = some (.int .i32 0) ∧ i.size = 1 ∧ i.bytes = 4 := info_parts (by kernel_rfl)
set_option maxRecDepth 100000 in
set_option maxHeartbeats 4000000 in
theorem text_any (l : List Int) (m : Nat) (hm : m ≤ 1000) (v : Value) (w : World) (hl : Row w v l.length (l.map (Value.int .i64))) :
    Calls Tryz.prog 14 #[v, .int .i64 m] w fun e w' => ∃ u, e = .returned u ∧ w'.ownsRow w.heap.size 21 1 u (txF l m).length (i32R (txF l m)) ∧ Below w.heap.size w w' := by
  obtain ⟨ii, hi0, hi1, hi2, hi3⟩ := infoI32
  obtain ⟨o0, c0, rfl⟩ := Row.form hl
  have HL := Lib.hid hl
  clear hl
  go_enter Tryz.func14, Tryz.ntmps14
  go_wp2_with fail
  go_loopg [5, 6] m (fun g s5 s6 wx => ∃ k : Nat, k + g = m ∧ k ≤ l.length ∧ s6 = .int .i64 (k : Int) ∧ wx.ownsRow w.heap.size 21 1 s5 (txF l k).length (i32R (txF l k)) ∧ Below w.heap.size w wx)
  case atStart => exact ⟨0, by omega, Nat.zero_le _, rfl, World.ownsRow_nil _ _ _ _, Below.refl _ _⟩
  case round =>
    obtain ⟨k, hk, hkl, rfl, hown, hbx⟩ := hrel
    obtain ⟨o, c, rfl⟩ := nf_slice hown
    have HOW := Lib.hid hown
    have HBX := Lib.hid hbx
    have htl : (txF l k).length = k := by unfold txF; simp; omega
    by_cases hlt : k < l.length ∧ k < m
    · obtain ⟨g1, hg1⟩ : ∃ g1, g1 + 1 = gk := ⟨gk - 1, by omega⟩
      obtain ⟨h1, h2⟩ := hlt
      have hd1 : decide ((k : Int) < (l.length : Int)) = true := by simp; omega
      have hd2 : decide ((k : Int) < (m : Int)) = true := by simp; omega
      have hd3 : (k : Int) < (l.length : Int) := by omega
      obtain ⟨z, hz⟩ : ∃ z, l[k]? = some z := ⟨l[k], List.getElem?_eq_getElem h1⟩
      obtain ⟨b, off, rfl, hbl, hcl⟩ := adrow_at HL.out (i := k) (u := .int .i64 z) (by rw [List.getElem?_map, hz]; rfl) h1
      rw [← hbx.cell (p := ⟨b, off + k, none⟩) hbl] at hcl
      have hb3 := bits_three z
      have hnx : txF l (k + 1) = txF l k ++ [97 + bits BinOp.and IntKind.i64 z 3] := by unfold txF rnF; rw [List.take_add_one, hz]; simp
      obtain ⟨y, hy⟩ : ∃ y, bits BinOp.and IntKind.i64 z 3 = y := ⟨_, rfl⟩
      rw [hy] at hb3 hnx
      obtain ⟨hy0, hy3⟩ := hb3
      have HNX := Lib.hid hnx
      have hbs := hbx.size
      clear hown hbx hnx hz
      go_wp2_with (at_builtin; refine wpList_append_far _ rfl _ _ 35 rfl w.heap.size 21 ii (.int .i32 0) 1 4 Tryz.underlying35 hi0 hi1 hi2 hi3 rfl (by decide) (.slice o (txF l k).length c) (txF l k).length (i32R (txF l k)) rfl (HOW.out.alloc _) _ 1 [.int .i32 (97 + y)] rfl (afrow_new rfl (by simp)) rfl (by simp [Value.oneCell']) (by unfold maxLen; omega) (by omega) (by simp; omega) ?_; intro v9 w9 hown9 hg9 hf9 hb9)
      have hn9 : w9.ownsRow w.heap.size 21 1 v9 (txF l (k + 1)).length (i32R (txF l (k + 1))) := by rw [HNX.out, List.length_append]; unfold i32R; rw [List.map_append]; exact hown9
      have hb79 : Below w.heap.size w w9 := bel_grown (HBX.out.alloc (by omega) _) hg9 (fun j hj => (HOW.out.lt j hj).1)
      go_roundg g1
      case measure => omega
      case rel => exact ⟨k + 1, by omega, by omega, by simp, hn9, hb79⟩
    · have htx : txF l m = txF l k := by
        unfold txF
        by_cases h4 : k < m
        · rw [List.take_of_length_le (show l.length ≤ m by omega), List.take_of_length_le (show l.length ≤ k by omega)]
        · rw [show m = k by omega]
      have HTX := Lib.hid htx
      clear hown hbx htx
      by_cases h4 : (k : Int) < (l.length : Int)
      · have hd2 : decide ((k : Int) < (m : Int)) = false := by simp; omega
        have hd3 : decide ((k : Int) < (l.length : Int)) = true := by simp; omega
        go_wp2_with fail
        go_ret
        refine ⟨_, rfl, ?_, HBX.out⟩
        rw [HTX.out]
        have h := HOW.out
        rw [htl] at h ⊢
        exact h
      · have hd3 : decide ((k : Int) < (l.length : Int)) = false := by simp; omega
        go_wp2_with fail
        go_ret
        refine ⟨_, rfl, ?_, HBX.out⟩
        rw [HTX.out]
        have h := HOW.out
        rw [htl] at h ⊢
        exact h
end Go.Proofs.YtmgfpcblbbpahaaGreat

namespace Go.Proofs.YtmgfpcblbbpahaaGreat
open Go.RowKit Ru

def Nf.onM (S : List (List Pc)) (F : List (List Int)) (s : List Int) : Nat → List Int
  | 0 => [0]
  | k + 1 => nextL S F (Nf.onM S F s k) (s.getD k 0)
set_option maxRecDepth 100000 in
set_option maxHeartbeats 8000000 in
theorem nfaMakes_walk (L : List (List Int)) (vs : List Value) (lv : Value) (a : List Int) (av : Value) (w : World) (hL : RowsI w lv vs L) (hz : ∀ l ∈ L, ∀ n ∈ l, (Lit.int .i64 n).wf = true)
    (ha : Row w av a.length (a.map (Value.int .i64))) (hza : ∀ n ∈ a, (Lit.int .i64 n).wf = true) :
    Calls Tryz.prog 6 #[lv, av] w fun e w' => e = .returned (.bool true) ∧ Below w.heap.size w w' := by
  have hres := res_any L vs lv w hL
  have HRES := Lib.hid hres
  have HA := Lib.hid ha
  clear hres hL hz ha hza
  go_enter Tryz.func6, Tryz.ntmps6
  go_wp2_with fail
  refine HRES.out.mono ?_
  rintro x w1 ⟨u1, rfl, hre, hb1⟩
  have hrl := Nf.resL_all L
  have hrf := Nf.resL_fit L
  have htk := Nf.resL_takes L
  have hbu := build_any _ _ _ w1 hre hrf htk
  obtain ⟨l, hl⟩ : ∃ l, l = Nf.resL L := ⟨_, rfl⟩
  rw [← hl] at hre hbu hrl hrf htk
  have hmay : ∀ e ∈ l, e.may = true := fun e he => (hrl.1 e he).2.1
  have hfit : ∀ e ∈ l, e.Fit := fun e he => (hrl.1 e he).1.fit
  have hl4 := hrl.2.2
  have hrb := fun (X : World) (hX : Below w1.heap.size w1 X) => rbuild_any (.mk 0 [] l) _ _ X (hre.moved hX) hrf (fun e he => by have := (hrl.1 e he).2.2; omega) (by show l.length ≤ 1000; omega)
  rw [show (RE.mk 0 [] l).parts = l from rfl] at hbu htk
  have hrb2 : ∀ (X : World), Below w1.heap.size w1 X → Calls Tryz.prog 18 #[u1] X fun x w' => BdPost X l x w' := hrb
  obtain ⟨ol, cl, c1, c2, rfl, _⟩ := hre.all
  rw [show (RE.mk 0 [] l).parts = l from rfl] at hbu hrb2 ⊢
  have HB1 := Lib.hid hb1
  have HBU := Lib.hid hbu
  have HRB := Lib.hid hrb2
  have HM := Lib.hid (And.intro hmay (And.intro hfit htk))
  clear hre hb1 hbu hl hrl hrf hrb hrb2 hmay hfit htk
  go_wp2_with fail
  refine HBU.out.mono ?_
  rintro x w2 ⟨pb, so, fo, eo, co, sc, fc, ec, cc, ss, fs, es, rfl, hn, hb2, hpb⟩
  have HN := Lib.hid hn
  have HB2 := Lib.hid hb2
  clear hn hb2 hpb HBU HRES
  go_wp2_with fail
  refine (HRB.out _ HB2.out).mono ?_
  rintro x w3 hpost
  obtain ⟨pm, g, c, T, vS, vO, v2, vL, v5, ss', fs', rfl, hrbs⟩ := hpost.yes HM.out.2.2
  obtain ⟨so', oo', lo', fo', eo', sc', oc', lc', fc', ec', hri⟩ := ris_of HM.out.1 HM.out.2.1 (by omega) hrbs
  have hb3 := hpost.bel
  have hlen := fun X (hX : Below w3.heap.size w3 X) => len_any (HN.out.moved (bel_then hb3 hX))
  have hc0 := hri.c0
  have HRI := Lib.hid hri
  have HB3 := Lib.hid hb3
  have HLEN := Lib.hid hlen
  have hfew := HN.out.few
  obtain ⟨S, hS⟩ : ∃ S, S = Nf.mS l := ⟨_, rfl⟩
  obtain ⟨F, hF⟩ : ∃ F, F = Nf.mF l := ⟨_, rfl⟩
  obtain ⟨E, hE⟩ : ∃ E, E = Nf.mE l := ⟨_, rfl⟩
  rw [← hS] at hc0 hfew
  have HS := Lib.hid (And.intro hS (And.intro hF hE))
  rw [← hS] at HLEN
  clear hpost hrbs hri hb3 hlen HRB hS hF hE
  go_upto_region 4 with (fail)
  go_quiet ((go_at_call 12; exact Calls.quiet_of_same (HLEN.out _ (by repeat (first | exact Below.refl _ _ | (refine Below.drew ?_) | (refine below_drewN ?_ _))))))
  have htold := fun X => told7_any X
  have HT := Lib.hid htold
  clear htold
  have htx := fun X (hX : Below w3.heap.size w3 X) => text_any a 40 (by omega) av X ((((HA.out.below HB1.out).below HB2.out).below HB3.out).below hX)
  have HTX := Lib.hid htx
  clear htx
  go_wp2_with fail
  refine (HTX.out _ (by repeat (first | exact Below.refl _ _ | (refine Below.drew ?_) | (refine below_drewN ?_ _)))).mono ?_
  rintro x w4 ⟨u4, rfl, hu4, hb4⟩
  have hb34 : Below w3.heap.size w3 w4 := bel_then (by repeat (first | exact Below.refl _ _ | (refine Below.drew ?_) | (refine below_drewN ?_ _))) hb4
  obtain ⟨s, hs⟩ : ∃ s, s = txF a 40 := ⟨_, rfl⟩
  have hsl : s.length ≤ 40 := by rw [hs]; unfold txF; simp; omega
  rw [← hs] at hu4
  obtain ⟨o4, c4, rfl⟩ := nf_slice hu4
  have HR4 := Lib.hid (Row.owned hu4)
  have HB4 := Lib.hid hb34
  clear hu4 hb4 hb34 hs HTX HA hc0
  go_wp2_with fail
  have hrow0 := row_lit (w := w4) (cs := [.int .i64 0]) (n := 1) rfl (by omega)
  have hb0 : Below w4.heap.size w4 (w4.alloc (.cells #[.int .i64 0] 3)) := bel_new (Below.refl _ _) _
  obtain ⟨W, hW⟩ : ∃ W, W = w4.alloc (.cells #[.int .i64 0] 3) := ⟨_, rfl⟩
  rw [show (w4.alloc (.cells [Value.int .i64 0].toArray 3)) = W from hW.symm] at hrow0
  rw [← hW] at hb0 ⊢
  clear hW
  have HW0 := Lib.hid (And.intro hrow0 hb0)
  clear hrow0 hb0
  go_loopg [10, 11, 12] s.length (fun g s10 s11 s12 wx => ∃ (k : Nat) (o : Option Addr) (n c : Nat), k + g = s.length ∧ s11 = .int .i64 (k : Int) ∧ s10 = .slice o n c ∧
    n = (Nf.onM S F s k).length ∧ Row wx (.slice o n c) n (ints1 (Nf.onM S F s k)) ∧ n ≤ 1000 ∧ Below w4.heap.size w4 wx)
  case atStart => exact ⟨0, _, 1, 1, by omega, rfl, rfl, rfl, HW0.out.1, by omega, HW0.out.2⟩
  case round =>
    obtain ⟨k, o, n, c, hk, rfl, rfl, hn1, hr1, hn2, hbx⟩ := hrel
    have HBX := Lib.hid hbx
    clear hbx
    obtain ⟨on, hone⟩ : ∃ on, on = Nf.onM S F s k := ⟨_, rfl⟩
    rw [← hone] at hn1 hr1
    subst hn1
    have HR1 := Lib.hid hr1
    have HONE := Lib.hid hone
    clear hr1 hone
    by_cases hlt : k < s.length
    · obtain ⟨g1, hg1⟩ : ∃ g1, g1 + 1 = gk := ⟨gk - 1, by omega⟩
      have hd2 : (k : Int) < (s.length : Int) := by omega
      obtain ⟨r, hr⟩ : ∃ r, r = s.getD k 0 := ⟨_, rfl⟩
      obtain ⟨b, off, rfl, hbl, hcl⟩ := adrow_at HR4.out (i := k) (u := .int .i32 r) (by show (s.map (Value.int .i32))[k]? = _; rw [List.getElem?_map, List.getElem?_eq_getElem hlt, hr, List.getD_eq_getElem?_getD, List.getElem?_eq_getElem hlt]; rfl) hlt
      have hcl1 := (HBX.out.cell (p := ⟨b, off + k, none⟩) hbl).trans hcl
      have hblr : b < wr.heap.size := Nat.lt_of_lt_of_le hbl HBX.out.size
      have hnx := next_any (HN.out.moved (bel_then HB3.out (bel_then HB4.out HBX.out))) on o c HR1.out (by omega) r
      obtain ⟨X, hX⟩ : ∃ X, X = nextL S F on r := ⟨_, rfl⟩
      have hXM : X = Nf.onM S F s (k + 1) := by rw [hX, Nf.onM, ← HONE.out, ← hr]
      have hSf : S.length ≤ 1000 := hfew
      have hXl : X.length ≤ 1000 := by
        have h1 := Nf.next_len _ _ HN.out.fit on r
        rw [← HS.out.1, ← HS.out.2.1, ← hX] at h1; omega
      have hdX : dnOut S F r on = X := by rw [hX, HS.out.1, HS.out.2.1]; exact rnext_eq l HM.out.1 on r
      rw [← HS.out.1, ← HS.out.2.1, ← hX] at hnx
      have HNX := Lib.hid hnx
      have HXE := Lib.hid (And.intro hXM hdX)
      clear hnx hX hXM hr hcl hdX
      go_wp2_with fail
      refine HNX.out.mono ?_
      rintro x w6 ⟨u6, rfl, hu6, hb6⟩
      obtain ⟨o6, c6, rfl⟩ := nf_slice hu6
      have HR6 := Lib.hid (Row.owned hu6)
      have HB6 := Lib.hid hb6
      have hcl6 := (hb6.cell (p := ⟨b, off + k, none⟩) hblr).trans hcl1
      clear hu6 hb6 HNX hcl1
      have hrn := rnext_any (HRI.out.moved (bel_then HB4.out (bel_then HBX.out HB6.out))) on _ (HR1.out.below HB6.out) (by omega) r
      rw [← HS.out.1, ← HS.out.2.1, HXE.out.2] at hrn
      have HRN := Lib.hid hrn
      clear hrn
      go_wp2_with fail
      refine HRN.out.mono ?_
      rintro x w7 ⟨u7, rfl, hu7, hb7⟩
      obtain ⟨o7, c7, rfl⟩ := nf_slice hu7
      have HR7 := Lib.hid (Row.owned hu7)
      have HB7 := Lib.hid hb7
      clear hu7 hb7 HRN hcl6
      go_wp2_with fail
      refine (ints7_same X _ _ _ (HR6.out.below HB7.out) HR7.out (by omega)).mono ?_
      rintro x w8 ⟨rfl, hb8⟩
      have HB8 := Lib.hid (bel_then HB6.out (bel_then HB7.out hb8))
      have HR8 := Lib.hid ((HR6.out.below HB7.out).below hb8)
      clear hb8
      have hru := rules_any (HN.out.moved (bel_then HB3.out (bel_then HB4.out (bel_then HBX.out HB8.out)))) X o6 c6 HR8.out (by omega)
      obtain ⟨R, hR⟩ : ∃ R, R = Nf.gat E X := ⟨_, rfl⟩
      rw [← HS.out.2.2, ← hR] at hru
      have hrR : rlOut S.length (Nf.dm l).O (Nf.dm l).L (Nf.dm l).Em X = R := by rw [hR, HS.out.1, HS.out.2.2]; exact rrules_eq l HM.out.1 X
      have hRl : R.length ≤ 100 := by
        have h1 := (rlOut_ok S.length (Nf.dm l).O (Nf.dm l).L (Nf.dm l).Em (by rw [HS.out.1]; exact HRI.out.fitO) X X.length (Nat.le_refl _)).len
        rw [List.take_length, hrR] at h1
        exact Nat.le_trans h1 HRI.out.lenE
      have HRU := Lib.hid hru
      have HRR := Lib.hid hrR
      clear hru hR hrR
      go_wp2_with fail
      refine HRU.out.mono ?_
      rintro x w9 ⟨u9, rfl, hu9, hb9⟩
      obtain ⟨o9, c9, rfl⟩ := nf_slice hu9
      have HR9 := Lib.hid (Row.owned hu9)
      have HB9 := Lib.hid hb9
      clear hu9 hb9 HRU
      have hrr := rrules_any (HRI.out.moved (bel_then HB4.out (bel_then HBX.out (bel_then HB8.out HB9.out)))) X _ (HR8.out.below HB9.out) (by omega)
      rw [← HS.out.1, HRR.out] at hrr
      have HRRU := Lib.hid hrr
      clear hrr
      go_wp2_with fail
      refine HRRU.out.mono ?_
      rintro x w10 ⟨u10, rfl, hu10, hb10⟩
      obtain ⟨o10, c10, rfl⟩ := nf_slice hu10
      have HR10 := Lib.hid (Row.owned hu10)
      have HB10 := Lib.hid hb10
      clear hu10 hb10 HRRU
      go_wp2_with fail
      refine (ints7_same R _ _ _ (HR9.out.below HB10.out) HR10.out (by omega)).mono ?_
      rintro x w11 ⟨rfl, hb11⟩
      have HB11 := Lib.hid (bel_then HBX.out (bel_then HB8.out (bel_then HB9.out (bel_then HB10.out hb11))))
      have hx11 := ((HR8.out.below HB9.out).below HB10.out).below hb11
      have HX11 := Lib.hid hx11
      clear hb11 hx11
      go_wp2_with fail
      go_roundg g1
      case measure => omega
      case rel => exact ⟨k + 1, o6, X.length, c6, by omega, by simp, rfl, by rw [HXE.out.1], by rw [← HXE.out.1]; exact HX11.out, hXl, HB11.out⟩
    · have hd2 : ¬ ((k : Int) < (s.length : Int)) := by omega
      have hC := Nf.mS_cells l HM.out.1 (by omega)
      have hP := mS_pcs l HM.out.1 (by omega)
      have hz : ∀ q ∈ Nf.mS l, i32s q := fun q hq => by
        unfold Nf.mS at hq
        rcases List.mem_cons.1 hq with rfl | hq
        · exact fun p hp => by simp at hp
        · exact (Nf.stsL_fit l (fun e he => ⟨(Nf.all_prt HM.out.1 e he).1, HM.out.2.1 e he⟩) q hq).1
      obtain ⟨C, hCe⟩ : ∃ C, C = cutsF (Nf.mS l) := ⟨_, rfl⟩
      rw [← hCe] at hC
      have HC := Lib.hid (And.intro hC (And.intro hP (And.intro hz hCe)))
      clear hC hP hz hCe
      go_wp2_with fail
      refine (HT.out _).mono ?_
      rintro x w9 ⟨rfl, hb9⟩
      have HB9 := Lib.hid (bel_then HBX.out hb9)
      clear hb9
      have hce := cells_any (HN.out.moved (bel_then HB3.out (bel_then HB4.out HB9.out))) (by have := HC.out.1; rw [HC.out.2.2.2] at this; omega)
      rw [← HC.out.2.2.2] at hce
      have HCE := Lib.hid hce
      clear hce
      go_wp2_with fail
      refine HCE.out.mono ?_
      rintro x w10 ⟨u10, rfl, hu10, hb10⟩
      have HR10 := Lib.hid (Row.owned hu10)
      have HB10 := Lib.hid (bel_then HB9.out hb10)
      clear hu10 hb10 HCE
      have hrc := rcells_any (HRI.out.moved (bel_then HB4.out HB10.out)) HC.out.2.2.1 HC.out.2.1
      rw [← HC.out.2.2.2] at hrc
      have HRC := Lib.hid hrc
      clear hrc
      go_wp2_with fail
      refine HRC.out.mono ?_
      rintro x w11 ⟨u11, rfl, hu11, hb11⟩
      have HR11 := Lib.hid (And.intro (HR10.out.below hb11) (Row.owned hu11))
      have HB11 := Lib.hid (bel_then HB10.out hb11)
      clear hu11 hb11 HRC
      go_wp2_with fail
      refine (refSame_any C C _ _ _ HR11.out.1 HR11.out.2 (by have := HC.out.1; omega) (by have := HC.out.1; omega)).mono ?_
      rintro x w12 ⟨rfl, hb12⟩
      rw [decide_eq_true (rfl : C = C)]
      have HB12 := Lib.hid (bel_then HB11.out hb12)
      clear hb12
      go_wp2_with fail
      go_ret
      exact ⟨rfl, bel_then HB1.out (bel_then HB2.out (bel_then HB3.out (bel_then HB4.out HB12.out)))⟩
end Go.Proofs.YtmgfpcblbbpahaaGreat
