/- nfa.add: an expression's rule, where it may end. -/
import Derived.Test.YtmgfpcblbbpahaaGreatNfSeq
set_option linter.unusedVariables false
set_option linter.unusedSimpArgs false
namespace Go.Proofs.YtmgfpcblbbpahaaGreat
open Go.RowKit Ru

theorem part_all (w0 : World) (fb qn pb : Nat) : ∀ N, PIh w0 fb qn pb N := by
  intro N
  induction N with
  | zero => intro e sv lv h; have := e.size_pos; omega
  | succ N ih =>
    intro e sv lv hsz hp h60 hre w vs F n L h hn hnF hL hLs
    cases e with
    | mk k s l =>
      have hszm := RE.size_mk k s l
      have hfs : ∃ o a c, sv = .slice o a c := by obtain ⟨⟨o, c, e⟩, _⟩ := hre.form; exact ⟨o, _, c, e⟩
      have hfl : ∃ o a c, lv = .slice o a c := by obtain ⟨_, ⟨o, c, e⟩⟩ := hre.form; exact ⟨o, _, c, e⟩
      rcases Nf.prt_cases hp with ⟨rfl, rfl⟩ | ⟨rfl, rfl⟩ | ⟨rfl, rfl, _⟩ | ⟨rfl, a, rfl, ha⟩ | ⟨hk, a, b, rfl, ha, hb⟩
      · have := part_leaf w0 fb qn pb 0 s sv lv (.inl rfl) w vs F n h hfs hfl
        rw [Nf.pt_nil]; simpa [reV, RE.kind] using this
      · have := part_leaf w0 fb qn pb 1 s sv lv (.inr rfl) w vs F n h hfs hfl
        rw [Nf.pt_nil]; simpa [reV, RE.kind] using this
      · have hst : (Nf.sts (.mk 2 s [])).length = 1 := by simp [Nf.sts_mk, Nf.stsL_nil]
        have := part_set w0 fb qn pb s sv lv w vs F n h ⟨hn, by omega⟩ hfs hfl
        rw [Nf.pt_nil]; simpa [reV, RE.kind] using this
      · rw [RE.sizes_cons, RE.sizes_nil] at hszm
        have hst : Nf.sts (.mk 5 s [a]) = Nf.sts a := by simp [Nf.sts_mk, Nf.stsL_cons, Nf.stsL_nil]
        rw [hst] at hnF
        have := part_star w0 fb qn pb N ih s a sv lv (by omega) ha (by omega) hre w vs F n L h hn hnF hL (by rw [show a.size + 1 = (RE.mk 5 s [a]).size by omega]; exact hLs)
        rw [Nf.pt_star] at this ⊢; exact this
      · rw [RE.sizes_cons, RE.sizes_cons, RE.sizes_nil] at hszm
        have k2 : ¬ k = 2 := by omega
        have hst : (Nf.sts (.mk k s [a, b])).length = (Nf.sts a).length + (Nf.sts b).length := by simp [Nf.sts_mk, Nf.stsL_cons, Nf.stsL_nil, k2]
        rw [hst] at hnF
        rcases hk with rfl | rfl
        · exact part_seq w0 fb qn pb N ih s a b sv lv (by omega) (by omega) ha hb (by omega) hre w vs F n L h hn hnF hL (by rw [show a.size + b.size + 1 = (RE.mk 3 s [a, b]).size by omega]; exact hLs)
        · exact part_alt w0 fb qn pb N ih s a b sv lv (by omega) (by omega) ha hb (by omega) hre w vs F n L h hn hnF hL (by rw [show a.size + b.size + 1 = (RE.mk 4 s [a, b]).size by omega]; exact hLs)
end Go.Proofs.YtmgfpcblbbpahaaGreat

namespace Go.Proofs.YtmgfpcblbbpahaaGreat
open Go.RowKit Ru

structure AS (w0 w : World) (fb eb pb : Nat) (vs us : List Value) (F E : List (List Int)) : Prop where
  fol : Fol w w0.heap.size fb vs F
  ens : Fol w w0.heap.size eb us E
  pl : pb < w.heap.size
  pc : w.cell? ⟨pb, 1, none⟩ = some (.slice (some ⟨fb, 0, none⟩) F.length F.length)
  pe : w.cell? ⟨pb, 2, none⟩ = some (.slice (some ⟨eb, 0, none⟩) E.length E.length)
  far : ¬ inF vs fb pb ∧ ¬ inF us eb pb
  two : ∀ k, inF vs fb k → ¬ inF us eb k
  low : w0.heap.size ≤ pb
  bel : Below w0.heap.size w0 w
structure Ta (fb eb : Nat) (w : World) (vs us : List Value) (w' : World) (vs' us' : List Value) : Prop where
  ag : Ag (fun j => ¬ inF vs fb j ∧ ¬ inF us eb j) w w'
  nf : ∀ j, inF vs' fb j → inF vs fb j ∨ w.heap.size ≤ j
  ne : ∀ j, inF us' eb j → inF us eb j ∨ w.heap.size ≤ j
section
variable {w0 w w' w1 w2 : World} {fb eb pb : Nat} {vs us vs1 us1 vs2 us2 : List Value} {F E : List (List Int)}
theorem Ta.trans (h : Ta fb eb w vs us w1 vs1 us1) (k : Ta fb eb w1 vs1 us1 w2 vs2 us2) : Ta fb eb w vs us w2 vs2 us2 := by
  have hs := h.ag.size
  refine ⟨⟨k.ag.os.trans h.ag.os, k.ag.tape.trans h.ag.tape, k.ag.output.trans h.ag.output, Nat.le_trans hs k.ag.size, fun j hj hS => (k.ag.block j (by omega) ⟨fun hj2 => ?_, fun hj2 => ?_⟩).trans (h.ag.block j hj hS)⟩, fun j hj => ?_, fun j hj => ?_⟩
  · rcases h.nf j hj2 with h4 | h4
    · exact hS.1 h4
    · omega
  · rcases h.ne j hj2 with h4 | h4
    · exact hS.2 h4
    · omega
  · rcases k.nf j hj with h4 | h4
    · exact h.nf j h4
    · exact .inr (by omega)
  · rcases k.ne j hj with h4 | h4
    · exact h.ne j h4
    · exact .inr (by omega)
theorem Ta.old (h : Below w.heap.size w w1) : Ta fb eb w vs us w1 vs us := ⟨.of h, fun j hj => .inl hj, fun j hj => .inl hj⟩
theorem AS.moved (h : AS w0 w fb eb pb vs us F E) (hb : Below w.heap.size w w') : AS w0 w' fb eb pb vs us F E :=
  ⟨h.fol.moved hb, h.ens.moved hb, Nat.lt_of_lt_of_le h.pl hb.size, (hb.cell (p := ⟨pb, 1, none⟩) h.pl).trans h.pc, (hb.cell (p := ⟨pb, 2, none⟩) h.pl).trans h.pe, h.far, h.two, h.low, h.bel.trans (hb.mono h.bel.size)⟩
theorem AS.linked {l tq : List Int} (h : AS w0 w fb eb pb vs us F E) (hl : LinkAt w w0.heap.size fb vs F l tq l.length w1) : ∃ vs', AS w0 w1 fb eb pb vs' us (linkF F l tq) E ∧ Ta fb eb w vs us w1 vs' us := by
  obtain ⟨⟨vs', h1, h2⟩, hag⟩ := hl
  rw [List.take_length] at h1
  have hpb := hag.block pb h.pl h.far.1
  refine ⟨vs', ⟨h1, h.ens.ag (hag.sub fun k hk hin hf => h.two k hf hin), Nat.lt_of_lt_of_le h.pl hag.size, ?_, ?_, ⟨fun hin => ?_, h.far.2⟩, fun k hk hin => ?_, h.low, h.bel.trans (hag.below h.bel.size fun k hk hin => by have := (inF_lt h.fol hin).2; omega)⟩, ⟨hag.sub fun k _ hk => hk.1, h2, fun j hj => .inl hj⟩⟩
  · rw [linkF_len, ← h.pc]; simp only [World.cell?]; rw [hpb]
  · rw [← h.pe]; simp only [World.cell?]; rw [hpb]
  · rcases h2 pb hin with h4 | h4
    · exact h.far.1 h4
    · have := h.pl; omega
  · rcases h2 k hk with h4 | h4
    · exact h.two k h4 hin
    · have := (inF_lt h.ens hin).1; omega
theorem AS.put (h : AS w0 w fb eb pb vs us F E) {i : Nat} (hi : i < E.length) {v' : Value} {r : List Int} (hown : w1.ownsRow w0.heap.size 3 1 v' r.length (ints1 r)) (hg : w.grownBy w1 (us.getD i undef).ownBlock)
    (hp : ∀ k, v'.ownBlock = some k → (us.getD i undef).ownBlock = some k ∨ w.heap.size ≤ k) :
    AS w0 (w1.setCell ⟨eb, i, none⟩ v') fb eb pb vs (us.set i v') F (E.set i r) ∧ Ta fb eb w vs us (w1.setCell ⟨eb, i, none⟩ v') vs (us.set i v') := by
  obtain ⟨h1, hag, h3⟩ := h.ens.put hi hown hg hp
  have hpb := hag.block pb h.pl h.far.2
  refine ⟨⟨h.fol.ag (hag.sub fun k hk hin hf => h.two k hin hf), h1, Nat.lt_of_lt_of_le h.pl hag.size, ?_, ?_, ⟨h.far.1, fun hin => ?_⟩, fun k hk hin => ?_, h.low, h.bel.trans (hag.below h.bel.size fun k hk hin => by have := (inF_lt h.ens hin).2; omega)⟩, ⟨hag.sub fun k _ hk => hk.2, fun j hj => .inl hj, h3⟩⟩
  · rw [← h.pc]; simp only [World.cell?]; rw [hpb]
  · rw [List.length_set, ← h.pe]; simp only [World.cell?]; rw [hpb]
  · rcases h3 pb hin with h4 | h4
    · exact h.far.2 h4
    · have := h.pl; omega
  · rcases h3 k hin with h4 | h4
    · exact h.two k hk h4
    · have := (inF_lt h.fol hk).1; omega
end
structure EndAt (w0 w : World) (fb eb pb : Nat) (vs us : List Value) (F E : List (List Int)) (wx : World) : Prop where
  st : ∃ vs' us', AS w0 wx fb eb pb vs' us' F E ∧ Ta fb eb w vs us wx vs' us'
theorem EndAt.block {w0 w wx : World} {fb eb pb : Nat} {vs us : List Value} {F E : List (List Int)} (h : EndAt w0 w fb eb pb vs us F E wx) {k : Nat} {o : Obj} (hk : w.heap[k]? = some o) (hn : ¬ inF vs fb k ∧ ¬ inF us eb k) : wx.heap[k]? = some o := by
  obtain ⟨vs', us', h1, h2⟩ := h.st
  rw [h2.ag.block k (Array.getElem?_eq_some_iff.1 hk).1 hn]; exact hk

theorem ends_next {w0 w wr w8 : World} {fb eb pb m : Nat} {vs us vk uk : List Value} {F E : List (List Int)} {v' : Value} {rule : Int} (hA : AS w0 wr fb eb pb vk uk F E) (hT : Ta fb eb w vs us wr vk uk) (hm : m < E.length)
    (hown : w8.ownsRow w0.heap.size 3 1 v' ((E.getD m []).length + 1) (ints1 (E.getD m []) ++ [.int .i64 rule])) (hg : wr.grownBy w8 (uk.getD m undef).ownBlock)
    (hp : ∀ k, v'.ownBlock = some k → (uk.getD m undef).ownBlock = some k ∨ wr.heap.size ≤ k) : EndAt w0 w fb eb pb vs us F (linkF E [(m : Int)] [rule]) (w8.setCell ⟨eb, m, none⟩ v') := by
  obtain ⟨h1, h2⟩ := hA.put hm (r := E.getD m [] ++ [rule]) (by rw [List.length_append, ints1_app]; exact hown) hg hp
  exact ⟨vk, uk.set m v', by simpa [linkF] using h1, hT.trans h2⟩

theorem adrow_at {w : World} {o : Option Addr} {n c : Nat} {cs : List Value} (h : Row w (.slice o n c) n cs) {i : Nat} {u : Value} (hu : cs[i]? = some u) (hi : i < n) : ∃ b off, o = some ⟨b, off, none⟩ ∧ b < w.heap.size ∧ w.cell? ⟨b, off + i, none⟩ = some u := by
  obtain ⟨o', c', e, h1, h2, h3⟩ := h
  simp only [Value.slice.injEq, true_and] at e
  obtain ⟨rfl, rfl⟩ := e
  rcases h3 with ⟨h0, _⟩ | ⟨b, off, rfl, hb, hcs⟩
  · omega
  · exact ⟨b, off, rfl, hb, hcs i u hu⟩
theorem nf_grown8 {w w8 : World} {o : Obj} {r : Option Nat} (h : (w.alloc o).drew.grownBy w8 r) : w.grownBy w8 r :=
  ⟨h.os, h.tape, h.output, Nat.le_trans (by simp) h.size, fun k hk hr => (h.block k (by simp; omega) hr).trans (Below.heap_alloc _ _ _ hk)⟩
theorem nf_cell8 {w w8 : World} {o : Obj} {r : Option Nat} (h : (w.alloc o).drew.grownBy w8 r) {b i : Nat} (hb : b < w.heap.size) (hn : some b ≠ r) : w8.cell? ⟨b, i, none⟩ = w.cell? ⟨b, i, none⟩ := by
  simp only [World.cell?]; rw [(nf_grown8 h).block b hb hn]
theorem nf_froz8 {w w8 : World} {o : Obj} {r : Option Nat} (h : (w.alloc o).drew.grownBy w8 r) {b i : Nat} (hb : b < w.heap.size) (hn : some b ≠ r) : w8.frozen? ⟨b, i, none⟩ = w.frozen? ⟨b, i, none⟩ := by
  simp only [World.frozen?]; rw [(nf_grown8 h).block b hb hn]
set_option maxRecDepth 100000 in
set_option maxHeartbeats 4000000 in
theorem add_any (w0 : World) (fb eb pb : Nat) (vs us : List Value) (F E : List (List Int)) (w : World) (h : AS w0 w fb eb pb vs us F E) (rule : Int) (q : Bool) (fi la : List Int) (o1 o2 : Option Addr) (c1 c2 : Nat)
    (h1 : KP (fun j => ¬ inF vs fb j ∧ ¬ inF us eb j) w (fun x => Row x (.slice o1 fi.length c1) fi.length (ints1 fi))) (h2 : KP (fun j => ¬ inF vs fb j ∧ ¬ inF us eb j) w (fun x => Row x (.slice o2 la.length c2) la.length (ints1 la)))
    (hla : ∀ s ∈ la, 0 ≤ s ∧ s < (E.length : Int)) (hl1 : fi.length ≤ 4000) (hl2 : la.length ≤ 4000) (hF : 0 < F.length) (hE : 0 < E.length) (hLF : ∀ r ∈ F, r.length ≤ 3999000 - 4000) (hLE : ∀ r ∈ E, r.length ≤ 3990000) :
    Calls Tryz.prog 29 #[.pointer (some ⟨pb, 0, none⟩), .int .i64 rule, .agg #[.bool q, .slice o1 fi.length c1, .slice o2 la.length c2]] w fun e w' => (∃ x, e = .returned x) ∧
      EndAt w0 w fb eb pb vs us (linkF F [0] fi) (linkF (if q = true then linkF E [0] [rule] else E) la [rule]) w' := by
  obtain ⟨ii, hi0, hi1, hi2, hi3⟩ := infoInt1
  obtain ⟨W, hW⟩ : ∃ W, W = (w.alloc (.cells #[.bool q, .slice o1 fi.length c1, .slice o2 la.length c2] 62)).alloc (.cells #[.int .i64 0] 3) := ⟨_, rfl⟩
  have hbW : Below w.heap.size w W := by rw [hW]; exact bel_new (bel_new (Below.refl _ _) _) _
  have hsW : W.heap.size = w.heap.size + 2 := by rw [hW]; simp
  have hpart : W.heap[w.heap.size]? = some (.cells #[.bool q, .slice o1 fi.length c1, .slice o2 la.length c2] 62 (0, 0)) := by rw [hW]; exact bel_get (bel_new (Below.refl _ _) _) (heap_alloc_new w _)
  have hzero : W.heap[w.heap.size + 1]? = some (.cells #[.int .i64 0] 3 (0, 0)) := by
    rw [hW]
    have := World.alloc_heap_new (w.alloc (.cells #[.bool q, .slice o1 fi.length c1, .slice o2 la.length c2] 62)) (.cells #[.int .i64 0] 3)
    rwa [World.size_alloc] at this
  have hAW := h.moved hbW
  have hnf : ∀ j, inF vs fb j → j < w.heap.size := fun j hj => (inF_lt h.fol hj).1
  have hne : ∀ j, inF us eb j → j < w.heap.size := fun j hj => (inF_lt h.ens hj).1
  have hlk := link_any w0.heap.size fb pb vs F W hAW.fol hAW.pl hAW.pc hAW.far.1 [0] fi (some ⟨w.heap.size + 1, 0, none⟩) o1 1 c1
    ((KP.block (S := fun j => ¬ inF vs fb j) hzero (fun hin => by have := hnf _ hin; omega)).mono fun x hx => ⟨_, _, rfl, Nat.le_refl _, by simp [maxLen], .inr ⟨_, 0, rfl, (Array.getElem?_eq_some_iff.1 hx).1, fun j u hu => by
      cases j with
      | zero => simp at hu; subst hu; simp [World.cell?, hx]
      | succ j => simp at hu⟩⟩)
    ((h1.to (.of hbW)).sub fun k _ hk => hk.1) (by simp; omega) (by simp) hl1
    (fun k hk r hr => by
      have h1 := linkF_row fi _ ([0].take k) F hLF r hr
      have h2 : ([0].take k : List Int).length * fi.length ≤ 1 * 4000 := Nat.mul_le_mul (by simp; omega) hl1
      omega)
  have HL3 := Lib.hid fun (w3 : World) (hl : LinkAt W w0.heap.size fb vs F [0] fi 1 w3) => (show EndAt w0 W fb eb pb vs us (linkF F [0] fi) E w3 from by obtain ⟨v, h1, h2⟩ := hAW.linked (l := [0]) hl; exact ⟨v, us, h1, h2⟩)
  have hcell : ∀ (X : World) (F1 E1 : List (List Int)), EndAt w0 W fb eb pb vs us F1 E1 X → X.cell? ⟨w.heap.size, 0, none⟩ = some (.bool q) ∧ X.cell? ⟨w.heap.size, 1, none⟩ = some (.slice o1 fi.length c1) ∧ X.cell? ⟨w.heap.size, 2, none⟩ = some (.slice o2 la.length c2) := fun X F1 E1 hX =>
    part_cells (hX.block hpart ⟨fun hin => by have := hnf _ hin; omega, fun hin => by have := hne _ hin; omega⟩)
  have hrow : ∀ (X : World) (F1 E1 : List (List Int)), EndAt w0 W fb eb pb vs us F1 E1 X → Row X (.slice o2 la.length c2) la.length (ints1 la) := fun X F1 E1 hX => by
    obtain ⟨v, u, _, hT⟩ := hX.st
    exact ((h2.to (.of hbW)) X hT.ag)
  have hfin : ∀ (X : World) (F1 E1 : List (List Int)), EndAt w0 W fb eb pb vs us F1 E1 X → EndAt w0 w fb eb pb vs us F1 E1 X := fun X F1 E1 hX => by
    obtain ⟨v, u, hx1, hx2⟩ := hX.st
    exact ⟨v, u, hx1, (Ta.old hbW).trans hx2⟩
  rw [hW] at hlk
  have hebl : eb < w.heap.size := h.ens.lt
  have HW := Lib.hid hW
  have HLA := Lib.hid hla
  have HLE := Lib.hid hLE
  have HLK := Lib.hid hlk
  have HC := Lib.hid hcell
  have HRW := Lib.hid hrow
  have HFIN := Lib.hid hfin
  clear h h1 h2 hW hla hLE hLF hlk hAW hbW hpart hzero hcell hrow hfin
  obtain ⟨E1, hE1⟩ : ∃ E1, E1 = (if q = true then linkF E [0] [rule] else E) := ⟨_, rfl⟩
  rw [← hE1]
  have hE1l : E1.length = E.length := by rw [hE1]; split <;> simp [linkF_len]
  have hE1r : ∀ r ∈ E1, r.length ≤ 3990001 := by
    rw [hE1]
    split
    · intro r hr
      have := linkF_row [rule] _ [0] E HLE.out r hr
      simpa using this
    · exact fun r hr => Nat.le_trans (HLE.out r hr) (by omega)
  have HE1 := Lib.hid hE1
  clear hE1
  go_enter Tryz.func29, Tryz.ntmps29
  go_upto_if 14 with (first
    | (go_at_call 55; refine HLK.out.mono ?_; rintro e w3 ⟨⟨xx, rfl⟩, hlink⟩; rw [← HW.out] at hlink; have HX := Lib.hid (HL3.out w3 hlink); clear hlink; obtain ⟨k0, k1, k2⟩ := HC.out w3 _ _ HX.out))
  go_cut [] from 15 (fun wx => EndAt w0 W fb eb pb vs us (linkF F [0] fi) E1 wx)
  case first =>
    cases q
    · go_wp2_with fail
      go_meet
      have h9 := HX.out
      rw [show E = E1 from HE1.out.symm] at h9
      exact h9
    · skip
      obtain ⟨vk, uk, hak, htk⟩ := HX.out.st
      obtain ⟨R, hR⟩ : ∃ R, R = E.getD 0 [] := ⟨_, rfl⟩
      have hown := hak.ens.own 0 hE
      have hRl : R.length ≤ 3990000 := by rw [hR, List.getD_eq_getElem?_getD, List.getElem?_eq_getElem hE]; exact HLE.out _ (List.getElem_mem hE)
      obtain ⟨hcm, hfm⟩ := hak.ens.cell hE
      rw [← hR] at hown
      obtain ⟨u, hu⟩ : ∃ u, u = uk.getD 0 undef := ⟨_, rfl⟩
      rw [← hu] at hown hcm
      obtain ⟨ou, cu, rfl⟩ := nf_slice hown
      have hfb := hak.ens.lt
      have hBw : w0.heap.size ≤ w3.heap.size := hak.bel.size
      have hpk := hak.pe
      have hpw := hak.pl
      have hne1 : ∀ z, (Value.slice ou R.length cu).ownBlock = some z → z ≠ eb := fun z hz => (hak.ens.ne hE (by rw [← hu]; exact hz)).1
      have hpn2 : ∀ z, (Value.slice ou R.length cu).ownBlock = some z → z ≠ pb := fun z hz e => by
        subst e
        exact hak.far.2 (.inr ⟨0, by rw [hak.ens.len]; exact hE, by rw [← hu]; exact hz⟩)
      have HAK := Lib.hid hak
      have HTK := Lib.hid htk
      have HR := Lib.hid hR
      have HU := Lib.hid hu
      clear hak htk hR hu
      go_wp2_with fail
      go_region_law
        (refine step_append_far _ rfl _ _ 23 rfl w0.heap.size 3 ii (.int .i64 0) 1 8 Tryz.underlying23 hi0 hi1 hi2 hi3 rfl (by decide) (.slice ou R.length cu) R.length (ints1 R) rfl (by repeat (first | exact hown | exact hown.drew | refine World.ownsRow.alloc ?_ _)) _ 1 [.int .i64 rule] rfl (by first | exact afrow_new rfl (by simp) | exact nf_rowdrew (afrow_new rfl (by simp))) rfl (by simp [Value.oneCell']) (by unfold maxLen; omega) (by omega) (by simp; omega) ?_; intro v8 w8 hown8 hg8 hf8 hb8; obtain ⟨o9, c9, rfl⟩ := nf_slice hown8
         have hp8 : w8.cell? ⟨pb, 2, none⟩ = some (.slice (some ⟨eb, 0, none⟩) E.length E.length) := by rw [← hpk]; exact nf_cell8 hg8 hpw (fun e => hpn2 pb e.symm rfl)
         have hc8 : w8.cell? ⟨eb, 0, none⟩ = some (.slice ou R.length cu) := by rw [← hcm]; exact nf_cell8 hg8 hfb (fun e => hne1 eb e.symm rfl)
         have hf8' : w8.frozen? ⟨eb, 0, none⟩ = false := by rw [← hfm]; exact nf_froz8 hg8 hfb (fun e => hne1 eb e.symm rfl))
      all_goals (
        have hg9 : w3.grownBy w8 (Value.slice ou R.length cu).ownBlock := nf_grown8 hg8
        have hnx := ends_next HAK.out HTK.out hE (v' := .slice o9 (R.length + 1) c9) (rule := rule) (by rw [← HR.out]; exact hown8) (by rw [← HU.out]; exact hg9) (by rw [← HU.out]; exact fun k hk => (hf8 k hk).imp id (fun h => by simp at h; omega))
        rw [show linkF E [((0 : Nat) : Int)] [rule] = E1 from HE1.out.symm] at hnx
        have HY := Lib.hid hnx
        clear hnx hg9 hg8 hf8 hb8 hown8 hp8 hc8 hf8' k0 k1 k2
        go_wp2_with fail
        go_meet
        exact HY.out)
  case rest =>
    have HX := Lib.hid hcut
    clear hcut
    obtain ⟨k0, k1, k2⟩ := HC.out wc _ _ HX.out
    clear HE1
    go_wp2_with fail
    go_loopg [32] la.length (fun g s32 wx => ∃ k, k + g = la.length ∧ s32 = .int .i64 (k : Int) ∧ EndAt w0 W fb eb pb vs us (linkF F [0] fi) (linkF E1 (la.take k) [rule]) wx)
    case atStart => exact ⟨0, by omega, rfl, HX.out⟩
    case round =>
      obtain ⟨k, hk, rfl, hst⟩ := hrel
      have HST := Lib.hid hst
      by_cases hlt : k < la.length
      · obtain ⟨g1, hg1⟩ : ∃ g1, g1 + 1 = gk := ⟨gk - 1, by omega⟩
        obtain ⟨s, hs⟩ : ∃ s, s = la.getD k 0 := ⟨_, rfl⟩
        have hmem : s ∈ la := by rw [hs, List.getD_eq_getElem?_getD, List.getElem?_eq_getElem hlt]; exact List.getElem_mem hlt
        have hsr := HLA.out s hmem
        obtain ⟨m, rfl⟩ : ∃ m : Nat, s = (m : Int) := ⟨s.toNat, by omega⟩
        have htk0 := take_next la k hlt
        rw [← hs] at htk0
        have hnext : linkF E1 (la.take (k + 1)) [rule] = linkF (linkF E1 (la.take k) [rule]) [(m : Int)] [rule] := by rw [htk0]; unfold linkF; rw [List.foldl_append]
        obtain ⟨bl, offl, rfl, hbl, hcl⟩ := adrow_at (HRW.out wr _ _ hst) (getElem?_ints hlt) hlt
        rw [← hs] at hcl
        obtain ⟨E0, hE0⟩ : ∃ E0, E0 = linkF E1 (la.take k) [rule] := ⟨_, rfl⟩
        rw [← hE0] at hst hnext
        have hmE : m < E0.length := by rw [hE0, linkF_len, hE1l]; omega
        have hEr : ∀ r ∈ E0, r.length ≤ 3999000 := by
          rw [hE0]
          intro r hr
          have := linkF_row [rule] _ (la.take k) E1 hE1r r hr
          have h2 : (la.take k).length * [rule].length ≤ 4000 * 1 := Nat.mul_le_mul (by rw [List.length_take]; omega) (by simp)
          omega
        have HNT := Lib.hid hnext
        clear hnext htk0 hE0 hs hmem
        obtain ⟨vk, uk, hak, htk⟩ := hst.st
        obtain ⟨R, hR⟩ : ∃ R, R = E0.getD m [] := ⟨_, rfl⟩
        have hown := hak.ens.own m hmE
        have hRl : R.length ≤ 3999000 := by rw [hR, List.getD_eq_getElem?_getD, List.getElem?_eq_getElem hmE]; exact hEr _ (List.getElem_mem hmE)
        obtain ⟨hcm, hfm⟩ := hak.ens.cell hmE
        rw [← hR] at hown
        obtain ⟨u, hu⟩ : ∃ u, u = uk.getD m undef := ⟨_, rfl⟩
        rw [← hu] at hown hcm
        obtain ⟨ou, cu, rfl⟩ := nf_slice hown
        have hfb := hak.ens.lt
        have hBw : w0.heap.size ≤ wr.heap.size := hak.bel.size
        have hpk := hak.pe
        have hpw := hak.pl
        have hne1 : ∀ z, (Value.slice ou R.length cu).ownBlock = some z → z ≠ eb := fun z hz => (hak.ens.ne hmE (by rw [← hu]; exact hz)).1
        have hpn2 : ∀ z, (Value.slice ou R.length cu).ownBlock = some z → z ≠ pb := fun z hz e => by
          subst e
          exact hak.far.2 (.inr ⟨m, by rw [hak.ens.len]; exact hmE, by rw [← hu]; exact hz⟩)
        have HAK := Lib.hid hak
        have HTK := Lib.hid htk
        have HR := Lib.hid hR
        have HU := Lib.hid hu
        clear hak htk hR hu hst hEr
        go_wp2_with fail
        go_region_law
          (refine step_append_far _ rfl _ _ 23 rfl w0.heap.size 3 ii (.int .i64 0) 1 8 Tryz.underlying23 hi0 hi1 hi2 hi3 rfl (by decide) (.slice ou R.length cu) R.length (ints1 R) rfl (by repeat (first | exact hown | exact hown.drew | refine World.ownsRow.alloc ?_ _)) _ 1 [.int .i64 rule] rfl (by first | exact afrow_new rfl (by simp) | exact nf_rowdrew (afrow_new rfl (by simp))) rfl (by simp [Value.oneCell']) (by unfold maxLen; omega) (by omega) (by simp; omega) ?_; intro v8 w8 hown8 hg8 hf8 hb8; obtain ⟨o9, c9, rfl⟩ := nf_slice hown8
           have hp8 : w8.cell? ⟨pb, 2, none⟩ = some (.slice (some ⟨eb, 0, none⟩) E0.length E0.length) := by rw [← hpk]; exact nf_cell8 hg8 hpw (fun e => hpn2 pb e.symm rfl)
           have hc8 : w8.cell? ⟨eb, m, none⟩ = some (.slice ou R.length cu) := by rw [← hcm]; exact nf_cell8 hg8 hfb (fun e => hne1 eb e.symm rfl)
           have hf8' : w8.frozen? ⟨eb, m, none⟩ = false := by rw [← hfm]; exact nf_froz8 hg8 hfb (fun e => hne1 eb e.symm rfl))
        all_goals (
          have hg9 : wr.grownBy w8 (Value.slice ou R.length cu).ownBlock := nf_grown8 hg8
          have hnx := ends_next HAK.out HTK.out hmE (v' := .slice o9 (R.length + 1) c9) (rule := rule) (by rw [← HR.out]; exact hown8) (by rw [← HU.out]; exact hg9) (by rw [← HU.out]; exact fun k hk => (hf8 k hk).imp id (fun h => by simp at h; omega))
          have HNX := Lib.hid hnx
          clear hnx hg9 hg8 hf8 hb8 hown8 hp8 hc8 hf8'
          go_wp2_with fail
          go_roundg g1
          case measure => omega
          case rel => exact ⟨k + 1, by omega, by simp, by rw [HNT.out]; exact HNX.out⟩)
      · obtain rfl : k = la.length := by omega
        clear hst
        go_wp2_with fail
        go_end0
        exact ⟨⟨_, rfl⟩, by have := HFIN.out _ _ _ HST.out; rw [List.take_length] at this; exact this⟩
end Go.Proofs.YtmgfpcblbbpahaaGreat
