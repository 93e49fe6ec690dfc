/- Merged. -/
import Derived.StillTail
import Derived.BigQuiet
import Derived.Test.YtfkmajjgkdjncaaGreatDoorGCont
set_option linter.unusedVariables false
set_option linter.unusedSimpArgs false
namespace Go.Proofs.YtfkmajjgkdjncaaGreatDoor
open Go Go.RowKit
section
variable {P : Program} {ops : Array Oper} {md : Region.Mode} {C : World → Prop}
def Hd (P : Program) (md : Region.Mode) (ops : Array Oper) (C : World → Prop) (n : Nat) (L : Array Bool → Act → Prop) : Nat → Array Bool → Act → Prop
 | 0, s, a => L s a
 | f + 1, s, a => Region.ready md ops s ≠ [] ∧ ∀ i ∈ Region.ready md ops s, i < n ∧ qOp P ops C i (Hd P md ops C n L f (s.setIfInBounds i true)) a
theorem hd_any {n g : Nat} {L : Array Bool → Act → Prop} {Q : Exit → Act → World → Prop} (hL : ∀ s a w, C w → L s a → wpAny P md ops Q g s a w) :
 ∀ (f : Nat) (s : Array Bool) (a : Act) (w : World), C w → Hd P md ops C n L f s a → wpAny P md ops Q (f + g) s a w := by
 intro f
 induction f with
 | zero => intro s a w hw h; rw [Nat.zero_add]; exact hL s a w hw h
 | succ f ih =>
  intro s a w hw h
  have e : f + 1 + g = (f + g) + 1 := by omega
  rw [e]
  exact ⟨fun h0 => (h.1 h0).elim, fun i hi => wpOp_of_qOp hw (fun a' w' hw' hh => ih _ a' w' hw' hh) (h.2 i hi).2⟩
structure Frst (md : Region.Mode) (ops : Array Oper) (n i : Nat) (oi : Oper) (s : Array Bool) : Prop where
 inv : HeadInv md ops n s
 rdy : i ∈ Region.ready md ops s
 far : ∀ j oj, ops[j]? = some oj → j ≠ i → s.getD j true = false → (∀ e ∈ oj.after, Region.binds md e = true → e.on ≠ i) → oi.apart ops oj = true
theorem Frst.lt {n i : Nat} {oi : Oper} {s : Array Bool} (h : Frst md ops n i oi s) (hs : Region.sinkB md ops n = true) (hc : Region.chainB md ops n = true) (hn : n < ops.size) (hin : i < n) {j : Nat} (hj : j ∈ Region.ready md ops s) : j < n := by
 rcases Nat.lt_or_ge j n with k | k
 · exact k
 · exact (tail_waits hs hc hn h.inv _ i rfl hin (mem_ready.1 h.rdy).1 j k hj).elim
theorem Frst.next {n i j : Nat} {oi : Oper} {s : Array Bool} (h : Frst md ops n i oi s) (hj : j ∈ Region.ready md ops s) (hjn : j < n) (hji : j ≠ i) : Frst md ops n i oi (s.setIfInBounds j true) where
 inv := h.inv.set hj hjn
 rdy := ready_mono h.rdy hji.symm
 far := by
  intro k ok hk hki hun hno
  refine h.far k ok hk hki ?_ hno
  by_cases e : j = k
  · exact e ▸ (mem_ready.1 hj).1
  · rwa [getD_set_ne true e] at hun
theorem hd_first {n i : Nat} {oi : Oper} {v : Value} {L : Array Bool → Act → Prop} (hi : ops[i]? = some oi) (hsel : Region.noSelect ops = true)
 (hs : Region.sinkB md ops n = true) (hc : Region.chainB md ops n = true) (hn : n < ops.size) (hin : i < n)
 (hd : ∀ s a, L s a → ∀ j ∈ Region.ready md ops s, n ≤ j) :
 ∀ (f : Nat) (s : Array Bool) (a : Act), Frst md ops n i oi s → YieldsIn P ops C oi v a →
  Hd P md ops C n L f (s.setIfInBounds i true) (a.put oi.dst v) → Hd P md ops C n L (f + 1) s a := by
 intro f
 induction f with
 | zero =>
  intro s a F hy H
  refine ⟨fun h => (by have := F.rdy; rw [h] at this; cases this), fun j hj => ⟨F.lt hs hc hn hin hj, ?_⟩⟩
  by_cases e : j = i
  · rw [e]; exact hy.qOp hi H
  · have h1 := hd _ _ H j (ready_mono hj e)
    have h2 := F.lt hs hc hn hin hj
    omega
 | succ f ih =>
  intro s a F hy H
  refine ⟨fun h => (by have := F.rdy; rw [h] at this; cases this), fun j hj => ⟨F.lt hs hc hn hin hj, ?_⟩⟩
  by_cases e : j = i
  · rw [e]; exact hy.qOp hi H
  · obtain ⟨hun, oj, hoj, hall⟩ := mem_ready.1 hj
    have hno : ∀ e ∈ oj.after, Region.binds md e = true → e.on ≠ i := by
     intro x hx hb hxi
     have h1 := hall x hx hb
     rw [hxi, getD_both (mem_ready.1 F.rdy).1] at h1
     cases h1
    have h2 := qOp_put hoj (F.far j oj hoj e hun hno) (fun cs b => Region.noSelect_spec hsel i oi cs b hi) (fun cs b => Region.noSelect_spec hsel j oj cs b hoj) hy (H.2 j (ready_mono hj e)).2
    refine qOp_mono (fun a' h3 => ih _ a' (F.next hj (F.lt hs hc hn hin hj) e) h3.1 ?_) h2
    rw [Array.setIfInBounds_comm _ _ e]
    exact h3.2
theorem hd_lex {n g : Nat} {Lq : Act → Prop} (hsel : Region.noSelect ops = true) (hs : Region.sinkB md ops n = true) (hc : Region.chainB md ops n = true) (hn : n < ops.size) :
 ∀ (l : List Oper) (k : Nat) (s : Array Bool) (a : Act), (∀ j, j < l.length → l[j]? = ops[k + j]?) → k + l.length = n → HeadInv md ops n s →
 Region.lexHead md ops g l.length k s = true → wpQuiet P ops C Lq l a → Hd P md ops C n (fun s' a' => Region.seqB md ops g n s' = true ∧ Lq a') l.length s a := by
 intro l
 induction l with
 | nil =>
  intro k s a _ hk _ hB h
  obtain rfl : k = n := by simpa using hk
  exact ⟨by simpa [Region.lexHead] using hB, h⟩
 | cons o l ih =>
  intro k s a hl hk inv hB h
  have h0 : ops[k]? = some o := by simpa using (hl 0 (by simp)).symm
  rw [List.length_cons] at hk
  simp only [List.length_cons, Region.lexHead, Bool.and_eq_true] at hB
  have hr : k ∈ Region.ready md ops s := by simpa using hB.1.1
  have hst : qOp P ops C k (wpQuiet P ops C Lq l) a := by unfold qOp; simp only [h0]; exact h
  obtain ⟨v, hy, hK⟩ := yieldsIn_of_qOp h0 hst
  refine hd_first h0 hsel hs hc hn (by omega) (fun s' a' hL => seqB_ready hL.1) l.length s a ⟨inv, hr, Region.free_spec h0 hB.1.2⟩ hy ?_
  exact ih (k + 1) _ _ (fun j hj => by have := hl (j + 1) (by simp; omega); simpa [Nat.add_assoc, Nat.add_comm 1 j] using this) (by omega) (inv.set hr (by omega)) hB.2 hK
end
theorem region_tail {P : Program} {id : Nat} {Q : Exit → Act → World → Prop} {a : Act} {w : World} {l : List Oper} {ι : Type} (W : ι → World) (n : Nat) (hm : P.follows .mixedOrders = true) (hB : Region.lexTailB .any l.toArray n = true) (h0 : ∃ i, w.drew = W i)
 (h : wpQuiet P l.toArray (fun w' => ∃ i, w' = W i) (fun a' => ∀ w', (∃ i, w' = W i) → wpList P l.toArray Q (l.drop n) a' w') (l.take n) a) : (Code.region id l.toArray true).wp P Q a w := by
 simp only [Region.lexTailB, Bool.and_eq_true, decide_eq_true_eq] at hB
 obtain ⟨⟨⟨⟨hsel, hn⟩, hs⟩, hc⟩, hlex⟩ := hB
 have hn' : n < l.length := by simpa using hn
 have htl : (l.take n).length = n := by simp; omega
 have hdl : (l.drop n).length = l.toArray.size - n := by simp
 have inv0 : HeadInv .any l.toArray n (Array.replicate l.toArray.size false) :=
  ⟨by simp, fun j oj _ hl => (by rw [getD_replicate_false] at hl; cases hl), fun t _ ht => getD_in (by simpa using ht) (getD_replicate_false _ _)⟩
 have H := hd_lex (md := .any) (g := l.toArray.size - n) hsel hs hc hn (l.take n) 0 _ a (fun j hj => by rw [htl] at hj; simp [hj]) (by omega) inv0 (by rw [htl]; exact hlex) h
 refine wp_region_any hm ?_
 have H2 := hd_any (Q := Q) (g := l.toArray.size - n) (fun s a' w' hw' hL => by
  have := wpAny_of_seq (md := .any) (Q' := Q) (l.drop n) n s a' w' (fun j => by simp [List.getElem?_drop]) (by rw [hdl]; exact hL.1) (hL.2 w' hw')
  rwa [hdl] at this) _ _ _ _ h0 H
 have e : (l.take n).length + (l.toArray.size - n) = l.toArray.size := by simp; omega
 rw [e] at H2
 exact H2
theorem kept_family (w : World) : ∃ (ι : Type) (K : ι → World), Nonempty ι ∧ (∀ i, Below w.heap.size w (K i)) ∧ ∀ w', Below w.heap.size w w' → ∃ i, w' = K i :=
 ⟨{ w' : World // Below w.heap.size w w' }, Subtype.val, ⟨⟨w, Below.refl _ _⟩⟩, fun i => i.2, fun w' h => ⟨⟨w', h⟩, rfl⟩⟩
theorem calls_kept {P : Program} {f : FuncId} {args : Array Value} {w : World} {ι : Type} {K : ι → World} (hb : ∀ i, Below w.heap.size w (K i)) (hs : ∀ w', Below w.heap.size w w' → ∃ i, w' = K i) {v : Value} {i : ι}
 (h : Calls P f args (K i) fun e w'' => e = .returned v ∧ Below (K i).heap.size (K i) w'') : Calls P f args (K i) fun e w'' => e = .returned v ∧ ∃ j, w'' = K j :=
 h.mono fun e w'' hh => ⟨hh.1, hs _ (bel_then (hb i) hh.2)⟩
theorem calls_same {P : Program} {f : FuncId} {args : Array Value} {ι : Type} {K : ι → World} {v : Value} {i : ι}
 (h : Calls P f args (K i) fun e w'' => e = .returned v ∧ K i = w'') : Calls P f args (K i) fun e w'' => e = .returned v ∧ ∃ j, w'' = K j :=
 h.mono fun e w'' hh => ⟨hh.1, i, hh.2.symm⟩
end Go.Proofs.YtfkmajjgkdjncaaGreatDoor

set_option maxHeartbeats 8000000
set_option maxRecDepth 100000
namespace Go.Proofs.YtfkmajjgkdjncaaGreatDoor
open Go.RowKit Ru
def namesE (T : List TK) (kind : Int) : List ByteArray → List ByteArray → Option Int
 | _, [] => none
 | seen, x :: l => if findB T x < 0 ∨ memS seen x = true then some 4 else if (T[(findB T x).toNat]?.map (·.kind)) ≠ some kind then some 5 else namesE T kind (seen ++ [x]) l
theorem namesE_nil (T : List TK) (kind : Int) (seen : List ByteArray) : namesE T kind seen [] = none := rfl
theorem namesE_cons (T : List TK) (kind : Int) (seen : List ByteArray) (x : ByteArray) (l : List ByteArray) : namesE T kind seen (x :: l) = if findB T x < 0 ∨ memS seen x = true then some 4 else if (T[(findB T x).toNat]?.map (·.kind)) ≠ some kind then some 5 else namesE T kind (seen ++ [x]) l := rfl
theorem findB_lt {T : List TK} {s : ByteArray} (h : ¬ findB T s < 0) : ∃ i : Nat, findB T s = i ∧ i < T.length := by
 unfold findB at h ⊢
 cases hf : T.findIdx? (fun t => decide (t.name = s)) with
 | none => rw [hf] at h; simp at h
 | some i =>
  refine ⟨i, rfl, ?_⟩
  rw [List.findIdx?_eq_some_iff_getElem] at hf
  exact hf.1
def GPost (r : Option Int) (a : Int) (w : World) (e : Ending) (w' : World) : Prop :=
 (match r with | none => e = .returned (.tuple #[]) | some c => e = gflt c a) ∧ Below w.heap.size w w'
abbrev chkV (tv rv : Value) (q : Nat) : Value := .agg #[tv, rv, needF q]
theorem elemStrs : Tryz.prog.elem 55 = 9 := by kernel_rfl
theorem undStrs : Tryz.prog.underlying 55 = some (.slice (Tryz.prog.elem 55)) := by rw [elemStrs]; exact Tryz.underlying55
theorem infoStr1 : ∃ i, Tryz.prog.info? 9 = some i ∧ i.zero = some (.string ⟨#[]⟩) ∧ i.size = 1 ∧ i.bytes = 16 := info_parts (by kernel_rfl)
theorem sizeStrs (w' : World) : (sizeOf (Tryz.prog.elem 55)).run Tryz.prog w' = .ok 1 w' := by
 obtain ⟨i0, hi, hz0, hz1, hz2⟩ := infoStr1
 rw [elemStrs]; simp [sizeOf, run_typeInfo _ hi, hz1, go_sem]
theorem cutS_h (o : Option Addr) (cap n : Nat) (cs : List Value) (hcs : cs.length = n) (k : Nat) (hk : k ≤ n) (hc : n ≤ cap) : ∃ o1 c1,
 (∀ w' : World, (Instr.sliceAt 55 (.slice o n cap) none (some (.int .i64 k)) none).run Tryz.prog w' = .ok (.slice o1 k c1) w') ∧
  ∀ w', Row w' (.slice o n cap) n cs → Row w' (.slice o1 k c1) k (cs.take k) := by
 have e1 : ((k : Int)).toNat = k := by simp
 refine ⟨(if cap = 0 then o else o.map (·.add (0 * 1))), cap - 0, fun w' => ?_, fun w' hr => ?_⟩
 · rw [run_sliceAt_slice _ _ _ _ _ _ undStrs, run_slice_h w' 55 o n cap undStrs .i64 (k : Int) (by omega) (by omega), sizeStrs]
   rw [Result.andThen_ok, e1]
   unfold Go.sliced
   rw [Nat.sub_zero k]
 · have h := hr.sliced hcs (Nat.zero_le k) hk
   unfold Go.sliced at h
   rw [Nat.sub_zero k, List.drop_zero] at h
   exact h
theorem strs_take (l : List ByteArray) (k : Nat) : (strs l).take k = strs (l.take k) := by simp [strs]
theorem gnames_any (T : List TK) (l : List ByteArray) (tv rv nv : Value) (kind a : Int) (q : Nat) (w : World) (hT : TksAre w tv T) (hTl : T.length ≤ 1000) (hrv : ∃ o n c, rv = .slice o n c) (hn : Row w nv l.length (strs l)) (hl : l.length ≤ 1000)
 (hq : w.heap[q]? = some (.cells #[.int .i64 a] 3 (0, 0))) :
 Calls Tryz.prog 101 #[chkV tv rv q, nv, .int .i64 kind] w (GPost (namesE T kind [] l) a w) := by
 obtain ⟨ot, ct, nm, kd, cl, rk, so, sn, sc, lo, ln, lc, rfl, hall⟩ := hT.all
 obtain ⟨o9, n9, c9, rfl⟩ := hrv
 have hn' := hn
 obtain ⟨on, cn, rfl, hcn, hcm, _⟩ := hn'
 have hfind := fun s w' (hb : Below w.heap.size w w') => gramFind_any T _ (.slice o9 n9 c9) s w' (hT.moved hb) hTl ⟨_, _, _, rfl⟩
 have HFD := Lib.hid hfind
 have HALL := Lib.hid hall
 have HN := Lib.hid hn
 have HQ := Lib.hid hq
 clear hfind hall hT hn hq
 go_enter Tryz.func101, Tryz.ntmps101
 go_wp2_with fail
 obtain ⟨W, hW⟩ : ∃ W, W = w.alloc (.cells #[.slice ot T.length ct, .slice o9 n9 c9, needF q] 119) := ⟨_, rfl⟩
 have hbW : Below w.heap.size w W := by rw [hW]; exact bel_new (Below.refl _ _) _
 have hBX : W.heap[w.heap.size]? = some (.cells #[.slice ot T.length ct, .slice o9 n9 c9, needF q] 119 (0, 0)) := by rw [hW]; exact heap_alloc_new w _
 unfold needF at hW
 rw [← hW]
 have H0 := Lib.hid (And.intro hbW hBX)
 clear hW hbW hBX
 go_loopg [11] l.length (fun g s wx => ∃ k : Nat, k + g = l.length ∧ s = .int .i64 k ∧ Below w.heap.size w wx ∧ wx.heap[w.heap.size]? = some (.cells #[.slice ot T.length ct, .slice o9 n9 c9, needF q] 119 (0, 0)) ∧ namesE T kind (l.take k) (l.drop k) = namesE T kind [] l)
 case atStart => exact ⟨0, by omega, rfl, H0.out.1, H0.out.2, by simp⟩
 case round =>
  obtain ⟨k, hkg, rfl, hbx, hbox, hne⟩ := hrel
  obtain ⟨wo, rfl⟩ : ∃ wo : World, wo = wr := ⟨_, rfl⟩
  cases gk with
  | zero =>
   obtain rfl : k = l.length := by omega
   have hd : decide ((l.length : Int) < (l.length : Int)) = false := by simp
   rw [List.drop_length, namesE_nil] at hne
   have HX := Lib.hid (And.intro hbx hne)
   clear hbx hne hbox
   go_wp2_with fail
   refine bodyPost_end (results_none rfl _ _ _) rfl ?_
   unfold GPost
   rw [← HX.out.2]
   exact ⟨rfl, HX.out.1⟩
  | succ g =>
   have hk : k < l.length := by omega
   have hd : decide ((k : Int) < (l.length : Int)) = true := by simp; omega
   have hk1 : (0 : Int) ≤ (k : Int) := by omega
   have hk2 : (k : Int) < (l.length : Int) := by omega
   have hk9 : (k : Int) ≤ 1000 := by omega
   obtain ⟨x, hx⟩ : ∃ x, l[k]? = some x := ⟨_, List.getElem?_eq_getElem hk⟩
   have hxe : l[k] = x := by rw [List.getElem?_eq_getElem hk] at hx; exact Option.some.inj hx
   obtain ⟨b, f, p, e, hlt, hc⟩ := HN.out.cells' (by omega)
   simp only [Value.slice.injEq, true_and] at e
   obtain ⟨rfl, rfl⟩ := e
   have c1 : wo.cell? ⟨b, f + k, none⟩ = some (.string x) := (hbx.cell hlt).trans (hc k _ (strs_get hx))
   rw [List.drop_eq_getElem_cons hk, hxe, namesE_cons] at hne
   have htk : l.take (k + 1) = l.take k ++ [x] := by rw [List.take_add_one, hx]; rfl
   have hbc : ∀ w', Below wo.heap.size wo w' → w'.cell? ⟨w.heap.size, 0, none⟩ = some (.slice ot T.length ct) ∧ w'.cell? ⟨w.heap.size, 1, none⟩ = some (.slice o9 n9 c9) ∧ w'.cell? ⟨w.heap.size, 2, none⟩ = some (.func (Fn.func 60) #[] #[.pointer (some ⟨q, 0, none⟩)]) := fun w' hb => by
    have := bel_get hb hbox
    simp [World.cell?, this]
   obtain ⟨b0, b1, b2⟩ := hbc wo (Below.refl _ _)
   have HBC := Lib.hid hbc
   have HX := Lib.hid (And.intro hbx (And.intro hbox (And.intro hne htk)))
   clear hbx hbox hne htk hbc hx hxe hc
   go_wp2_with fail
   refine (HFD.out x _ HX.out.1).mono ?_
   rintro e w2 ⟨rfl, hb2⟩
   obtain ⟨d0, d1, d2⟩ := HBC.out w2 hb2
   have HB2 := Lib.hid hb2
   have hq2 := bel_get (bel_then HX.out.1 hb2) HQ.out
   have HQ2 := Lib.hid hq2
   obtain ⟨fi, hfi⟩ : ∃ fi, fi = findB T x := ⟨_, rfl⟩
   rw [← hfi]
   have HFI := Lib.hid hfi
   clear hb2 hq2 b0 b1 b2 hfi
   obtain ⟨ι, K, hne, hkb, hks⟩ := kept_family wo
   have KB := Lib.hid hkb
   have KS := Lib.hid hks
   have k0 : ∀ i, (K i).cell? ⟨w.heap.size, 1, none⟩ = some (.slice o9 n9 c9) := fun i => (HBC.out _ (hkb i)).2.1
   have k1 : ∀ i, (K i).cell? ⟨w.heap.size, 2, none⟩ = some (.func (Fn.func 60) #[] #[.pointer (some ⟨q, 0, none⟩)]) := fun i => (HBC.out _ (hkb i)).2.2
   have kS := KS.out _ HB2.out.drew
   clear hkb hks
   by_cases hneg : fi < 0
   · have t1 : decide ((0 : Int) ≤ fi) = false := by simp; omega
     have HR := Lib.hid (show some 4 = namesE T kind [] l by rw [← HX.out.2.2.1, if_pos (.inl (by rw [← HFI.out]; exact hneg))])
     clear hneg
     go_wp2_with fail
     refine region_tail K 12 (by kernel_rfl) (by kernel_rfl) kS ?_
     simp only [List.take_succ_cons, List.take_zero, List.drop_succ_cons, List.drop_zero]
     repeat (go_big_quiet_step (fail))
     refine wpQuiet_nil ?_
     rintro _ ⟨iw, rfl⟩
     have HB4 := Lib.hid (bel_then HX.out.1 (KB.out iw))
     go_wp2_with fail
     refine (need_no q 4 a _ (bel_get HB4.out HQ.out)).mono ?_
     rintro e w3 ⟨rfl, rfl⟩
     go_wp2_with fail
     refine ⟨rfl, ?_⟩
     unfold GPost
     rw [← HR.out]
     exact ⟨rfl, HB4.out⟩
   · have t1 : decide ((0 : Int) ≤ fi) = true := by simp; omega
     obtain ⟨m, hm⟩ : ∃ m, m = memS (l.take k) x := ⟨_, rfl⟩
     obtain ⟨o1, c1', hcut, hcr⟩ := cutS_h (some ⟨b, f, none⟩) cn l.length (strs l) (strs_len l) k (by omega) hcn
     have hcon : ∀ i, Calls Tryz.prog 131 #[.slice o1 k c1', .string x] (K i) fun e w'' => e = .returned (.bool m) ∧ ∃ j, w'' = K j := fun i => by
      refine calls_same ?_
      rw [hm]
      have hrow := hcr _ (HN.out.below (bel_then HX.out.1 (KB.out i)))
      rw [strs_take] at hrow
      have hlen : (l.take k).length = k := by simp; omega
      exact containsS_any (l.take k) _ x (K i) (by rw [hlen]; exact hrow) (by omega)
     have HCON := Lib.hid hcon
     have HM := Lib.hid hm
     have HNEG := Lib.hid hneg
     have bn : fi < 2 ^ 40 := by
      obtain ⟨i, e, hi⟩ := findB_lt (T := T) (s := x) (by rw [← HFI.out]; exact hneg)
      rw [HFI.out, e]; omega
     clear hcon hm hneg hcr
     go_wp2_with fail
     refine region_tail K 12 (by kernel_rfl) (by kernel_rfl) kS ?_
     simp only [List.take_succ_cons, List.take_zero, List.drop_succ_cons, List.drop_zero]
     repeat (go_big_quiet_step (exact HCON.out _))
     refine wpQuiet_nil ?_
     rintro _ ⟨iw, rfl⟩
     have HB4 := Lib.hid (bel_then HX.out.1 (KB.out iw))
     cases m with
     | true =>
      have HR := Lib.hid (show some 4 = namesE T kind [] l by rw [← HX.out.2.2.1, if_pos (.inr HM.out.symm)])
      go_wp2_with fail
      refine (need_no q 4 a _ (bel_get HB4.out HQ.out)).mono ?_
      rintro e w3 ⟨rfl, rfl⟩
      go_wp2_with fail
      refine ⟨rfl, ?_⟩
      unfold GPost
      rw [← HR.out]
      exact ⟨rfl, HB4.out⟩
     | false =>
      go_wp2_with fail
      refine (need_ok q 4 _).mono ?_
      rintro e w3 ⟨rfl, rfl⟩
      obtain ⟨i, he, hi⟩ := findB_lt (T := T) (s := x) (by rw [← HFI.out]; have := HNEG.out; omega)
      obtain rfl : fi = (i : Int) := by rw [HFI.out, he]
      have hne3 := HX.out.2.2.1
      rw [if_neg (by intro h; rcases h with h | h; (rw [← HFI.out] at h; have := HNEG.out; omega); rw [← HM.out] at h; cases h), ← HFI.out, Int.toNat_natCast, List.getElem?_eq_getElem hi] at hne3
      have hall := HALL.out i _ (List.getElem?_eq_getElem hi)
      obtain ⟨e1, e2, e3, e4, er, tb, tf, hot, htb, g0, g1, g2, g3, g4, g5⟩ := hall
      have HNE3 := Lib.hid hne3
      have HE2 := Lib.hid e2
      obtain ⟨kdi, hkdi⟩ : ∃ kdi, kdi = kd i := ⟨_, rfl⟩
      have HKD := Lib.hid hkdi
      rw [← hkdi] at g1
      subst hot
      have i1 : (0 : Int) ≤ (i : Int) := by omega
      have i2 : (i : Int) < (T.length : Int) := by omega
      have i3 : (i : Int) ≤ 1000 := by omega
      have m1 : ∀ j, (K j).cell? ⟨tb, tf + i * 6 + 1, none⟩ = some (.int .i64 kdi) := fun j => ((bel_then HX.out.1 (KB.out j)).cell htb).trans g1
      have m0 : ∀ j, (K j).cell? ⟨w.heap.size, 0, none⟩ = some (.slice (some ⟨tb, tf, none⟩) T.length ct) := fun j => (HBC.out _ (KB.out j)).1
      have kS2 := KS.out _ (KB.out iw).drew
      clear hne3 e1 e2 e3 e4 er hkdi g0 g1 g2 g3 g4 g5 he
      go_wp2_with fail
      refine region_tail K 11 (by kernel_rfl) (by kernel_rfl) kS2 ?_
      simp only [List.take_succ_cons, List.take_zero, List.drop_succ_cons, List.drop_zero]
      repeat (go_big_quiet_step (fail))
      refine wpQuiet_nil ?_
      rintro _ ⟨iw2, rfl⟩
      have HB5 := Lib.hid (bel_then HX.out.1 (KB.out iw2))
      have HB6 := Lib.hid (KB.out iw2)
      by_cases hkk : kdi = kind
      · have d1 : (kdi == kind) = true := by simpa using hkk
        have HR := Lib.hid (show namesE T kind (l.take (k + 1)) (l.drop (k + 1)) = namesE T kind [] l by
         rw [HX.out.2.2.2, ← HNE3.out, if_neg (by simp only [Option.map_some, ne_eq, Option.some.injEq, Decidable.not_not]; rw [← HE2.out, ← HKD.out]; exact hkk)])
        clear hkk
        go_wp2_with fail
        refine (need_ok q 5 _).mono ?_
        rintro e w3 ⟨rfl, rfl⟩
        go_wp2_with fail
        go_roundg g
        case measure => omega
        case rel => exact ⟨k + 1, by omega, by go_num, HB5.out, bel_get HB6.out HX.out.2.1, HR.out⟩
      · have d1 : (kdi == kind) = false := by simpa using hkk
        have HR := Lib.hid (show some 5 = namesE T kind [] l by
         rw [← HNE3.out, if_pos (by simp only [Option.map_some, ne_eq, Option.some.injEq]; rw [← HE2.out, ← HKD.out]; exact hkk)])
        clear hkk
        go_wp2_with fail
        refine (need_no q 5 a _ (bel_get HB5.out HQ.out)).mono ?_
        rintro e w3 ⟨rfl, rfl⟩
        go_wp2_with fail
        refine ⟨rfl, ?_⟩
        unfold GPost
        rw [← HR.out]
        exact ⟨rfl, HB5.out⟩
end Go.Proofs.YtfkmajjgkdjncaaGreatDoor
