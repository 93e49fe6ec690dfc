/- nfa.Build: what it holds while it goes. -/
import Derived.Test.YtmgfpcblbbpahaaGreatNfSeq
import Derived.Test.YtmgfpcblbbpahaaGreatNfSets
import Derived.Test.YtmgfpcblbbpahaaGreatNfNext
import Derived.Laws.OwnMore
set_option linter.unusedVariables false
set_option linter.unusedSimpArgs false
namespace Go.Proofs.YtmgfpcblbbpahaaGreat
open Go.RowKit Ru

theorem part_all (w0 : World) (fb qn pb : Nat) : ∀ N, PIh w0 fb qn pb N := by
  intro N
  induction N with
  | zero => intro e sv lv h; have := e.size_pos; omega
  | succ N ih =>
    intro e sv lv hsz hp h60 hre w vs F n L h hn hnF hL hLs
    cases e with
    | mk k s l =>
      have hszm := RE.size_mk k s l
      have hfs : ∃ o a c, sv = .slice o a c := by obtain ⟨⟨o, c, e⟩, _⟩ := hre.form; exact ⟨o, _, c, e⟩
      have hfl : ∃ o a c, lv = .slice o a c := by obtain ⟨_, ⟨o, c, e⟩⟩ := hre.form; exact ⟨o, _, c, e⟩
      rcases Nf.prt_cases hp with ⟨rfl, rfl⟩ | ⟨rfl, rfl⟩ | ⟨rfl, rfl, _⟩ | ⟨rfl, a, rfl, ha⟩ | ⟨hk, a, b, rfl, ha, hb⟩
      · have := part_leaf w0 fb qn pb 0 s sv lv (.inl rfl) w vs F n h hfs hfl
        rw [Nf.pt_nil]; simpa [reV, RE.kind] using this
      · have := part_leaf w0 fb qn pb 1 s sv lv (.inr rfl) w vs F n h hfs hfl
        rw [Nf.pt_nil]; simpa [reV, RE.kind] using this
      · have hst : (Nf.sts (.mk 2 s [])).length = 1 := by simp [Nf.sts_mk, Nf.stsL_nil]
        have := part_set w0 fb qn pb s sv lv w vs F n h ⟨hn, by omega⟩ hfs hfl
        rw [Nf.pt_nil]; simpa [reV, RE.kind] using this
      · rw [RE.sizes_cons, RE.sizes_nil] at hszm
        have hst : Nf.sts (.mk 5 s [a]) = Nf.sts a := by simp [Nf.sts_mk, Nf.stsL_cons, Nf.stsL_nil]
        rw [hst] at hnF
        have := part_star w0 fb qn pb N ih s a sv lv (by omega) ha (by omega) hre w vs F n L h hn hnF hL (by rw [show a.size + 1 = (RE.mk 5 s [a]).size by omega]; exact hLs)
        rw [Nf.pt_star] at this ⊢; exact this
      · rw [RE.sizes_cons, RE.sizes_cons, RE.sizes_nil] at hszm
        have k2 : ¬ k = 2 := by omega
        have hst : (Nf.sts (.mk k s [a, b])).length = (Nf.sts a).length + (Nf.sts b).length := by simp [Nf.sts_mk, Nf.stsL_cons, Nf.stsL_nil, k2]
        rw [hst] at hnF
        rcases hk with rfl | rfl
        · exact part_seq w0 fb qn pb N ih s a b sv lv (by omega) (by omega) ha hb (by omega) hre w vs F n L h hn hnF hL (by rw [show a.size + b.size + 1 = (RE.mk 3 s [a, b]).size by omega]; exact hLs)
        · exact part_alt w0 fb qn pb N ih s a b sv lv (by omega) (by omega) ha hb (by omega) hre w vs F n L h hn hnF hL (by rw [show a.size + b.size + 1 = (RE.mk 4 s [a, b]).size by omega]; exact hLs)
end Go.Proofs.YtmgfpcblbbpahaaGreat

namespace Go.Proofs.YtmgfpcblbbpahaaGreat
open Go.RowKit Ru

structure AS (w0 w : World) (fb eb pb : Nat) (vs us : List Value) (F E : List (List Int)) : Prop where
  fol : Fol w w0.heap.size fb vs F
  ens : Fol w w0.heap.size eb us E
  pl : pb < w.heap.size
  pc : w.cell? ⟨pb, 1, none⟩ = some (.slice (some ⟨fb, 0, none⟩) F.length F.length)
  pe : w.cell? ⟨pb, 2, none⟩ = some (.slice (some ⟨eb, 0, none⟩) E.length E.length)
  far : ¬ inF vs fb pb ∧ ¬ inF us eb pb
  two : ∀ k, inF vs fb k → ¬ inF us eb k
  low : w0.heap.size ≤ pb
  bel : Below w0.heap.size w0 w
structure Ta (fb eb : Nat) (w : World) (vs us : List Value) (w' : World) (vs' us' : List Value) : Prop where
  ag : Ag (fun j => ¬ inF vs fb j ∧ ¬ inF us eb j) w w'
  nf : ∀ j, inF vs' fb j → inF vs fb j ∨ w.heap.size ≤ j
  ne : ∀ j, inF us' eb j → inF us eb j ∨ w.heap.size ≤ j
section
variable {w0 w w' w1 w2 : World} {fb eb pb : Nat} {vs us vs1 us1 vs2 us2 : List Value} {F E : List (List Int)}
theorem Ta.trans (h : Ta fb eb w vs us w1 vs1 us1) (k : Ta fb eb w1 vs1 us1 w2 vs2 us2) : Ta fb eb w vs us w2 vs2 us2 := by
  have hs := h.ag.size
  refine ⟨⟨k.ag.os.trans h.ag.os, k.ag.tape.trans h.ag.tape, k.ag.output.trans h.ag.output, Nat.le_trans hs k.ag.size, fun j hj hS => (k.ag.block j (by omega) ⟨fun hj2 => ?_, fun hj2 => ?_⟩).trans (h.ag.block j hj hS)⟩, fun j hj => ?_, fun j hj => ?_⟩
  · rcases h.nf j hj2 with h4 | h4
    · exact hS.1 h4
    · omega
  · rcases h.ne j hj2 with h4 | h4
    · exact hS.2 h4
    · omega
  · rcases k.nf j hj with h4 | h4
    · exact h.nf j h4
    · exact .inr (by omega)
  · rcases k.ne j hj with h4 | h4
    · exact h.ne j h4
    · exact .inr (by omega)
theorem Ta.old (h : Below w.heap.size w w1) : Ta fb eb w vs us w1 vs us := ⟨.of h, fun j hj => .inl hj, fun j hj => .inl hj⟩
theorem AS.moved (h : AS w0 w fb eb pb vs us F E) (hb : Below w.heap.size w w') : AS w0 w' fb eb pb vs us F E :=
  ⟨h.fol.moved hb, h.ens.moved hb, Nat.lt_of_lt_of_le h.pl hb.size, (hb.cell (p := ⟨pb, 1, none⟩) h.pl).trans h.pc, (hb.cell (p := ⟨pb, 2, none⟩) h.pl).trans h.pe, h.far, h.two, h.low, h.bel.trans (hb.mono h.bel.size)⟩
theorem AS.linked {l tq : List Int} (h : AS w0 w fb eb pb vs us F E) (hl : LinkAt w w0.heap.size fb vs F l tq l.length w1) : ∃ vs', AS w0 w1 fb eb pb vs' us (linkF F l tq) E ∧ Ta fb eb w vs us w1 vs' us := by
  obtain ⟨⟨vs', h1, h2⟩, hag⟩ := hl
  rw [List.take_length] at h1
  have hpb := hag.block pb h.pl h.far.1
  refine ⟨vs', ⟨h1, h.ens.ag (hag.sub fun k hk hin hf => h.two k hf hin), Nat.lt_of_lt_of_le h.pl hag.size, ?_, ?_, ⟨fun hin => ?_, h.far.2⟩, fun k hk hin => ?_, h.low, h.bel.trans (hag.below h.bel.size fun k hk hin => by have := (inF_lt h.fol hin).2; omega)⟩, ⟨hag.sub fun k _ hk => hk.1, h2, fun j hj => .inl hj⟩⟩
  · rw [linkF_len, ← h.pc]; simp only [World.cell?]; rw [hpb]
  · rw [← h.pe]; simp only [World.cell?]; rw [hpb]
  · rcases h2 pb hin with h4 | h4
    · exact h.far.1 h4
    · have := h.pl; omega
  · rcases h2 k hk with h4 | h4
    · exact h.two k h4 hin
    · have := (inF_lt h.ens hin).1; omega
theorem AS.put (h : AS w0 w fb eb pb vs us F E) {i : Nat} (hi : i < E.length) {v' : Value} {r : List Int} (hown : w1.ownsRow w0.heap.size 3 1 v' r.length (ints1 r)) (hg : w.grownBy w1 (us.getD i undef).ownBlock)
    (hp : ∀ k, v'.ownBlock = some k → (us.getD i undef).ownBlock = some k ∨ w.heap.size ≤ k) :
    AS w0 (w1.setCell ⟨eb, i, none⟩ v') fb eb pb vs (us.set i v') F (E.set i r) ∧ Ta fb eb w vs us (w1.setCell ⟨eb, i, none⟩ v') vs (us.set i v') := by
  obtain ⟨h1, hag, h3⟩ := h.ens.put hi hown hg hp
  have hpb := hag.block pb h.pl h.far.2
  refine ⟨⟨h.fol.ag (hag.sub fun k hk hin hf => h.two k hin hf), h1, Nat.lt_of_lt_of_le h.pl hag.size, ?_, ?_, ⟨h.far.1, fun hin => ?_⟩, fun k hk hin => ?_, h.low, h.bel.trans (hag.below h.bel.size fun k hk hin => by have := (inF_lt h.ens hin).2; omega)⟩, ⟨hag.sub fun k _ hk => hk.2, fun j hj => .inl hj, h3⟩⟩
  · rw [← h.pc]; simp only [World.cell?]; rw [hpb]
  · rw [List.length_set, ← h.pe]; simp only [World.cell?]; rw [hpb]
  · rcases h3 pb hin with h4 | h4
    · exact h.far.2 h4
    · have := h.pl; omega
  · rcases h3 k hin with h4 | h4
    · exact h.two k hk h4
    · have := (inF_lt h.fol hk).1; omega
end
structure EndAt (w0 w : World) (fb eb pb : Nat) (vs us : List Value) (F E : List (List Int)) (wx : World) : Prop where
  st : ∃ vs' us', AS w0 wx fb eb pb vs' us' F E ∧ Ta fb eb w vs us wx vs' us'
theorem EndAt.block {w0 w wx : World} {fb eb pb : Nat} {vs us : List Value} {F E : List (List Int)} (h : EndAt w0 w fb eb pb vs us F E wx) {k : Nat} {o : Obj} (hk : w.heap[k]? = some o) (hn : ¬ inF vs fb k ∧ ¬ inF us eb k) : wx.heap[k]? = some o := by
  obtain ⟨vs', us', h1, h2⟩ := h.st
  rw [h2.ag.block k (Array.getElem?_eq_some_iff.1 hk).1 hn]; exact hk

theorem ends_next {w0 w wr w8 : World} {fb eb pb m : Nat} {vs us vk uk : List Value} {F E : List (List Int)} {v' : Value} {rule : Int} (hA : AS w0 wr fb eb pb vk uk F E) (hT : Ta fb eb w vs us wr vk uk) (hm : m < E.length)
    (hown : w8.ownsRow w0.heap.size 3 1 v' ((E.getD m []).length + 1) (ints1 (E.getD m []) ++ [.int .i64 rule])) (hg : wr.grownBy w8 (uk.getD m undef).ownBlock)
    (hp : ∀ k, v'.ownBlock = some k → (uk.getD m undef).ownBlock = some k ∨ wr.heap.size ≤ k) : EndAt w0 w fb eb pb vs us F (linkF E [(m : Int)] [rule]) (w8.setCell ⟨eb, m, none⟩ v') := by
  obtain ⟨h1, h2⟩ := hA.put hm (r := E.getD m [] ++ [rule]) (by rw [List.length_append, ints1_app]; exact hown) hg hp
  exact ⟨vk, uk.set m v', by simpa [linkF] using h1, hT.trans h2⟩

theorem adrow_at {w : World} {o : Option Addr} {n c : Nat} {cs : List Value} (h : Row w (.slice o n c) n cs) {i : Nat} {u : Value} (hu : cs[i]? = some u) (hi : i < n) : ∃ b off, o = some ⟨b, off, none⟩ ∧ b < w.heap.size ∧ w.cell? ⟨b, off + i, none⟩ = some u := by
  obtain ⟨o', c', e, h1, h2, h3⟩ := h
  simp only [Value.slice.injEq, true_and] at e
  obtain ⟨rfl, rfl⟩ := e
  rcases h3 with ⟨h0, _⟩ | ⟨b, off, rfl, hb, hcs⟩
  · omega
  · exact ⟨b, off, rfl, hb, hcs i u hu⟩
theorem nf_grown8 {w w8 : World} {o : Obj} {r : Option Nat} (h : (w.alloc o).drew.grownBy w8 r) : w.grownBy w8 r :=
  ⟨h.os, h.tape, h.output, Nat.le_trans (by simp) h.size, fun k hk hr => (h.block k (by simp; omega) hr).trans (Below.heap_alloc _ _ _ hk)⟩
theorem nf_cell8 {w w8 : World} {o : Obj} {r : Option Nat} (h : (w.alloc o).drew.grownBy w8 r) {b i : Nat} (hb : b < w.heap.size) (hn : some b ≠ r) : w8.cell? ⟨b, i, none⟩ = w.cell? ⟨b, i, none⟩ := by
  simp only [World.cell?]; rw [(nf_grown8 h).block b hb hn]
theorem nf_froz8 {w w8 : World} {o : Obj} {r : Option Nat} (h : (w.alloc o).drew.grownBy w8 r) {b i : Nat} (hb : b < w.heap.size) (hn : some b ≠ r) : w8.frozen? ⟨b, i, none⟩ = w.frozen? ⟨b, i, none⟩ := by
  simp only [World.frozen?]; rw [(nf_grown8 h).block b hb hn]
set_option maxRecDepth 100000 in
set_option maxHeartbeats 4000000 in
theorem add_any (w0 : World) (fb eb pb : Nat) (vs us : List Value) (F E : List (List Int)) (w : World) (h : AS w0 w fb eb pb vs us F E) (rule : Int) (q : Bool) (fi la : List Int) (o1 o2 : Option Addr) (c1 c2 : Nat)
    (h1 : KP (fun j => ¬ inF vs fb j ∧ ¬ inF us eb j) w (fun x => Row x (.slice o1 fi.length c1) fi.length (ints1 fi))) (h2 : KP (fun j => ¬ inF vs fb j ∧ ¬ inF us eb j) w (fun x => Row x (.slice o2 la.length c2) la.length (ints1 la)))
    (hla : ∀ s ∈ la, 0 ≤ s ∧ s < (E.length : Int)) (hl1 : fi.length ≤ 4000) (hl2 : la.length ≤ 4000) (hF : 0 < F.length) (hE : 0 < E.length) (hLF : ∀ r ∈ F, r.length ≤ 3999000 - 4000) (hLE : ∀ r ∈ E, r.length ≤ 3990000) :
    Calls Tryz.prog 29 #[.pointer (some ⟨pb, 0, none⟩), .int .i64 rule, .agg #[.bool q, .slice o1 fi.length c1, .slice o2 la.length c2]] w fun e w' => (∃ x, e = .returned x) ∧
      EndAt w0 w fb eb pb vs us (linkF F [0] fi) (linkF (if q = true then linkF E [0] [rule] else E) la [rule]) w' := by
  obtain ⟨ii, hi0, hi1, hi2, hi3⟩ := infoInt1
  obtain ⟨W, hW⟩ : ∃ W, W = (w.alloc (.cells #[.bool q, .slice o1 fi.length c1, .slice o2 la.length c2] 62)).alloc (.cells #[.int .i64 0] 3) := ⟨_, rfl⟩
  have hbW : Below w.heap.size w W := by rw [hW]; exact bel_new (bel_new (Below.refl _ _) _) _
  have hsW : W.heap.size = w.heap.size + 2 := by rw [hW]; simp
  have hpart : W.heap[w.heap.size]? = some (.cells #[.bool q, .slice o1 fi.length c1, .slice o2 la.length c2] 62 (0, 0)) := by rw [hW]; exact bel_get (bel_new (Below.refl _ _) _) (heap_alloc_new w _)
  have hzero : W.heap[w.heap.size + 1]? = some (.cells #[.int .i64 0] 3 (0, 0)) := by
    rw [hW]
    have := World.alloc_heap_new (w.alloc (.cells #[.bool q, .slice o1 fi.length c1, .slice o2 la.length c2] 62)) (.cells #[.int .i64 0] 3)
    rwa [World.size_alloc] at this
  have hAW := h.moved hbW
  have hnf : ∀ j, inF vs fb j → j < w.heap.size := fun j hj => (inF_lt h.fol hj).1
  have hne : ∀ j, inF us eb j → j < w.heap.size := fun j hj => (inF_lt h.ens hj).1
  have hlk := link_any w0.heap.size fb pb vs F W hAW.fol hAW.pl hAW.pc hAW.far.1 [0] fi (some ⟨w.heap.size + 1, 0, none⟩) o1 1 c1
    ((KP.block (S := fun j => ¬ inF vs fb j) hzero (fun hin => by have := hnf _ hin; omega)).mono fun x hx => ⟨_, _, rfl, Nat.le_refl _, by simp [maxLen], .inr ⟨_, 0, rfl, (Array.getElem?_eq_some_iff.1 hx).1, fun j u hu => by
      cases j with
      | zero => simp at hu; subst hu; simp [World.cell?, hx]
      | succ j => simp at hu⟩⟩)
    ((h1.to (.of hbW)).sub fun k _ hk => hk.1) (by simp; omega) (by simp) hl1
    (fun k hk r hr => by
      have h1 := linkF_row fi _ ([0].take k) F hLF r hr
      have h2 : ([0].take k : List Int).length * fi.length ≤ 1 * 4000 := Nat.mul_le_mul (by simp; omega) hl1
      omega)
  have HL3 := Lib.hid fun (w3 : World) (hl : LinkAt W w0.heap.size fb vs F [0] fi 1 w3) => (show EndAt w0 W fb eb pb vs us (linkF F [0] fi) E w3 from by obtain ⟨v, h1, h2⟩ := hAW.linked (l := [0]) hl; exact ⟨v, us, h1, h2⟩)
  have hcell : ∀ (X : World) (F1 E1 : List (List Int)), EndAt w0 W fb eb pb vs us F1 E1 X → X.cell? ⟨w.heap.size, 0, none⟩ = some (.bool q) ∧ X.cell? ⟨w.heap.size, 1, none⟩ = some (.slice o1 fi.length c1) ∧ X.cell? ⟨w.heap.size, 2, none⟩ = some (.slice o2 la.length c2) := fun X F1 E1 hX =>
    part_cells (hX.block hpart ⟨fun hin => by have := hnf _ hin; omega, fun hin => by have := hne _ hin; omega⟩)
  have hrow : ∀ (X : World) (F1 E1 : List (List Int)), EndAt w0 W fb eb pb vs us F1 E1 X → Row X (.slice o2 la.length c2) la.length (ints1 la) := fun X F1 E1 hX => by
    obtain ⟨v, u, _, hT⟩ := hX.st
    exact ((h2.to (.of hbW)) X hT.ag)
  have hfin : ∀ (X : World) (F1 E1 : List (List Int)), EndAt w0 W fb eb pb vs us F1 E1 X → EndAt w0 w fb eb pb vs us F1 E1 X := fun X F1 E1 hX => by
    obtain ⟨v, u, hx1, hx2⟩ := hX.st
    exact ⟨v, u, hx1, (Ta.old hbW).trans hx2⟩
  rw [hW] at hlk
  have hebl : eb < w.heap.size := h.ens.lt
  have HW := Lib.hid hW
  have HLA := Lib.hid hla
  have HLE := Lib.hid hLE
  have HLK := Lib.hid hlk
  have HC := Lib.hid hcell
  have HRW := Lib.hid hrow
  have HFIN := Lib.hid hfin
  clear h h1 h2 hW hla hLE hLF hlk hAW hbW hpart hzero hcell hrow hfin
  obtain ⟨E1, hE1⟩ : ∃ E1, E1 = (if q = true then linkF E [0] [rule] else E) := ⟨_, rfl⟩
  rw [← hE1]
  have hE1l : E1.length = E.length := by rw [hE1]; split <;> simp [linkF_len]
  have hE1r : ∀ r ∈ E1, r.length ≤ 3990001 := by
    rw [hE1]
    split
    · intro r hr
      have := linkF_row [rule] _ [0] E HLE.out r hr
      simpa using this
    · exact fun r hr => Nat.le_trans (HLE.out r hr) (by omega)
  have HE1 := Lib.hid hE1
  clear hE1
  go_enter Tryz.func29, Tryz.ntmps29
  go_upto_if 14 with (first
    | (go_at_call 55; refine HLK.out.mono ?_; rintro e w3 ⟨⟨xx, rfl⟩, hlink⟩; rw [← HW.out] at hlink; have HX := Lib.hid (HL3.out w3 hlink); clear hlink; obtain ⟨k0, k1, k2⟩ := HC.out w3 _ _ HX.out))
  go_cut [] from 15 (fun wx => EndAt w0 W fb eb pb vs us (linkF F [0] fi) E1 wx)
  case first =>
    cases q
    · go_wp2_with fail
      go_meet
      have h9 := HX.out
      rw [show E = E1 from HE1.out.symm] at h9
      exact h9
    · skip
      obtain ⟨vk, uk, hak, htk⟩ := HX.out.st
      obtain ⟨R, hR⟩ : ∃ R, R = E.getD 0 [] := ⟨_, rfl⟩
      have hown := hak.ens.own 0 hE
      have hRl : R.length ≤ 3990000 := by rw [hR, List.getD_eq_getElem?_getD, List.getElem?_eq_getElem hE]; exact HLE.out _ (List.getElem_mem hE)
      obtain ⟨hcm, hfm⟩ := hak.ens.cell hE
      rw [← hR] at hown
      obtain ⟨u, hu⟩ : ∃ u, u = uk.getD 0 undef := ⟨_, rfl⟩
      rw [← hu] at hown hcm
      obtain ⟨ou, cu, rfl⟩ := nf_slice hown
      have hfb := hak.ens.lt
      have hBw : w0.heap.size ≤ w3.heap.size := hak.bel.size
      have hpk := hak.pe
      have hpw := hak.pl
      have hne1 : ∀ z, (Value.slice ou R.length cu).ownBlock = some z → z ≠ eb := fun z hz => (hak.ens.ne hE (by rw [← hu]; exact hz)).1
      have hpn2 : ∀ z, (Value.slice ou R.length cu).ownBlock = some z → z ≠ pb := fun z hz e => by
        subst e
        exact hak.far.2 (.inr ⟨0, by rw [hak.ens.len]; exact hE, by rw [← hu]; exact hz⟩)
      have HAK := Lib.hid hak
      have HTK := Lib.hid htk
      have HR := Lib.hid hR
      have HU := Lib.hid hu
      clear hak htk hR hu
      go_wp2_with fail
      go_region_law
        (refine step_append_far _ rfl _ _ 23 rfl w0.heap.size 3 ii (.int .i64 0) 1 8 Tryz.underlying23 hi0 hi1 hi2 hi3 rfl (by decide) (.slice ou R.length cu) R.length (ints1 R) rfl (by repeat (first | exact hown | exact hown.drew | refine World.ownsRow.alloc ?_ _)) _ 1 [.int .i64 rule] rfl (by first | exact afrow_new rfl (by simp) | exact nf_rowdrew (afrow_new rfl (by simp))) rfl (by simp [Value.oneCell']) (by unfold maxLen; omega) (by omega) (by simp; omega) ?_; intro v8 w8 hown8 hg8 hf8 hb8; obtain ⟨o9, c9, rfl⟩ := nf_slice hown8
         have hp8 : w8.cell? ⟨pb, 2, none⟩ = some (.slice (some ⟨eb, 0, none⟩) E.length E.length) := by rw [← hpk]; exact nf_cell8 hg8 hpw (fun e => hpn2 pb e.symm rfl)
         have hc8 : w8.cell? ⟨eb, 0, none⟩ = some (.slice ou R.length cu) := by rw [← hcm]; exact nf_cell8 hg8 hfb (fun e => hne1 eb e.symm rfl)
         have hf8' : w8.frozen? ⟨eb, 0, none⟩ = false := by rw [← hfm]; exact nf_froz8 hg8 hfb (fun e => hne1 eb e.symm rfl))
      all_goals (
        have hg9 : w3.grownBy w8 (Value.slice ou R.length cu).ownBlock := nf_grown8 hg8
        have hnx := ends_next HAK.out HTK.out hE (v' := .slice o9 (R.length + 1) c9) (rule := rule) (by rw [← HR.out]; exact hown8) (by rw [← HU.out]; exact hg9) (by rw [← HU.out]; exact fun k hk => (hf8 k hk).imp id (fun h => by simp at h; omega))
        rw [show linkF E [((0 : Nat) : Int)] [rule] = E1 from HE1.out.symm] at hnx
        have HY := Lib.hid hnx
        clear hnx hg9 hg8 hf8 hb8 hown8 hp8 hc8 hf8' k0 k1 k2
        go_wp2_with fail
        go_meet
        exact HY.out)
  case rest =>
    have HX := Lib.hid hcut
    clear hcut
    obtain ⟨k0, k1, k2⟩ := HC.out wc _ _ HX.out
    clear HE1
    go_wp2_with fail
    go_loopg [32] la.length (fun g s32 wx => ∃ k, k + g = la.length ∧ s32 = .int .i64 (k : Int) ∧ EndAt w0 W fb eb pb vs us (linkF F [0] fi) (linkF E1 (la.take k) [rule]) wx)
    case atStart => exact ⟨0, by omega, rfl, HX.out⟩
    case round =>
      obtain ⟨k, hk, rfl, hst⟩ := hrel
      have HST := Lib.hid hst
      by_cases hlt : k < la.length
      · obtain ⟨g1, hg1⟩ : ∃ g1, g1 + 1 = gk := ⟨gk - 1, by omega⟩
        obtain ⟨s, hs⟩ : ∃ s, s = la.getD k 0 := ⟨_, rfl⟩
        have hmem : s ∈ la := by rw [hs, List.getD_eq_getElem?_getD, List.getElem?_eq_getElem hlt]; exact List.getElem_mem hlt
        have hsr := HLA.out s hmem
        obtain ⟨m, rfl⟩ : ∃ m : Nat, s = (m : Int) := ⟨s.toNat, by omega⟩
        have htk0 := take_next la k hlt
        rw [← hs] at htk0
        have hnext : linkF E1 (la.take (k + 1)) [rule] = linkF (linkF E1 (la.take k) [rule]) [(m : Int)] [rule] := by rw [htk0]; unfold linkF; rw [List.foldl_append]
        obtain ⟨bl, offl, rfl, hbl, hcl⟩ := adrow_at (HRW.out wr _ _ hst) (getElem?_ints hlt) hlt
        rw [← hs] at hcl
        obtain ⟨E0, hE0⟩ : ∃ E0, E0 = linkF E1 (la.take k) [rule] := ⟨_, rfl⟩
        rw [← hE0] at hst hnext
        have hmE : m < E0.length := by rw [hE0, linkF_len, hE1l]; omega
        have hEr : ∀ r ∈ E0, r.length ≤ 3999000 := by
          rw [hE0]
          intro r hr
          have := linkF_row [rule] _ (la.take k) E1 hE1r r hr
          have h2 : (la.take k).length * [rule].length ≤ 4000 * 1 := Nat.mul_le_mul (by rw [List.length_take]; omega) (by simp)
          omega
        have HNT := Lib.hid hnext
        clear hnext htk0 hE0 hs hmem
        obtain ⟨vk, uk, hak, htk⟩ := hst.st
        obtain ⟨R, hR⟩ : ∃ R, R = E0.getD m [] := ⟨_, rfl⟩
        have hown := hak.ens.own m hmE
        have hRl : R.length ≤ 3999000 := by rw [hR, List.getD_eq_getElem?_getD, List.getElem?_eq_getElem hmE]; exact hEr _ (List.getElem_mem hmE)
        obtain ⟨hcm, hfm⟩ := hak.ens.cell hmE
        rw [← hR] at hown
        obtain ⟨u, hu⟩ : ∃ u, u = uk.getD m undef := ⟨_, rfl⟩
        rw [← hu] at hown hcm
        obtain ⟨ou, cu, rfl⟩ := nf_slice hown
        have hfb := hak.ens.lt
        have hBw : w0.heap.size ≤ wr.heap.size := hak.bel.size
        have hpk := hak.pe
        have hpw := hak.pl
        have hne1 : ∀ z, (Value.slice ou R.length cu).ownBlock = some z → z ≠ eb := fun z hz => (hak.ens.ne hmE (by rw [← hu]; exact hz)).1
        have hpn2 : ∀ z, (Value.slice ou R.length cu).ownBlock = some z → z ≠ pb := fun z hz e => by
          subst e
          exact hak.far.2 (.inr ⟨m, by rw [hak.ens.len]; exact hmE, by rw [← hu]; exact hz⟩)
        have HAK := Lib.hid hak
        have HTK := Lib.hid htk
        have HR := Lib.hid hR
        have HU := Lib.hid hu
        clear hak htk hR hu hst hEr
        go_wp2_with fail
        go_region_law
          (refine step_append_far _ rfl _ _ 23 rfl w0.heap.size 3 ii (.int .i64 0) 1 8 Tryz.underlying23 hi0 hi1 hi2 hi3 rfl (by decide) (.slice ou R.length cu) R.length (ints1 R) rfl (by repeat (first | exact hown | exact hown.drew | refine World.ownsRow.alloc ?_ _)) _ 1 [.int .i64 rule] rfl (by first | exact afrow_new rfl (by simp) | exact nf_rowdrew (afrow_new rfl (by simp))) rfl (by simp [Value.oneCell']) (by unfold maxLen; omega) (by omega) (by simp; omega) ?_; intro v8 w8 hown8 hg8 hf8 hb8; obtain ⟨o9, c9, rfl⟩ := nf_slice hown8
           have hp8 : w8.cell? ⟨pb, 2, none⟩ = some (.slice (some ⟨eb, 0, none⟩) E0.length E0.length) := by rw [← hpk]; exact nf_cell8 hg8 hpw (fun e => hpn2 pb e.symm rfl)
           have hc8 : w8.cell? ⟨eb, m, none⟩ = some (.slice ou R.length cu) := by rw [← hcm]; exact nf_cell8 hg8 hfb (fun e => hne1 eb e.symm rfl)
           have hf8' : w8.frozen? ⟨eb, m, none⟩ = false := by rw [← hfm]; exact nf_froz8 hg8 hfb (fun e => hne1 eb e.symm rfl))
        all_goals (
          have hg9 : wr.grownBy w8 (Value.slice ou R.length cu).ownBlock := nf_grown8 hg8
          have hnx := ends_next HAK.out HTK.out hmE (v' := .slice o9 (R.length + 1) c9) (rule := rule) (by rw [← HR.out]; exact hown8) (by rw [← HU.out]; exact hg9) (by rw [← HU.out]; exact fun k hk => (hf8 k hk).imp id (fun h => by simp at h; omega))
          have HNX := Lib.hid hnx
          clear hnx hg9 hg8 hf8 hb8 hown8 hp8 hc8 hf8'
          go_wp2_with fail
          go_roundg g1
          case measure => omega
          case rel => exact ⟨k + 1, by omega, by simp, by rw [HNT.out]; exact HNX.out⟩)
      · obtain rfl : k = la.length := by omega
        clear hst
        go_wp2_with fail
        go_end0
        exact ⟨⟨_, rfl⟩, by have := HFIN.out _ _ _ HST.out; rw [List.take_length] at this; exact this⟩
end Go.Proofs.YtmgfpcblbbpahaaGreat

namespace Go.Proofs.YtmgfpcblbbpahaaGreat
open Go.RowKit Ru

theorem Rws.one {w : World} {B : Nat} {v : Value} {ss : List Value} {S : List (List Pc)} (h : Rws w B v ss S) : ∀ u ∈ ss, u.oneCell' = true := by
  intro u hu
  obtain ⟨i, hi, rfl⟩ := List.mem_iff_getElem.1 hu
  have h1 := Row.owned (h.parts i (by rw [← h.len]; exact hi))
  rw [List.getD_eq_getElem?_getD, List.getElem?_eq_getElem hi, Option.getD_some] at h1
  obtain ⟨o, c, e, _⟩ := h1
  rw [e]; rfl
structure B1 (w0 w : World) (pb : Nat) (v : Value) (ss : List Value) (S : List (List Pc)) : Prop where
  bel : Below w0.heap.size w0 w
  cn : w.heap[pb]? = some (.cells #[v, .slice none 0 0, .slice none 0 0, .slice none 0 0] 58 (0, 0))
  low : w0.heap.size ≤ pb
  rws : Rws w w0.heap.size v ss S
theorem cells4_of {w : World} {b : Nat} {x y z u : Value} {t : TypeId} (h : w.heap[b]? = some (.cells #[x, y, z, u] t (0, 0))) :
    (w.cell? ⟨b, 0, none⟩ = some x ∧ w.cell? ⟨b, 1, none⟩ = some y ∧ w.cell? ⟨b, 2, none⟩ = some z ∧ w.cell? ⟨b, 3, none⟩ = some u) ∧ (w.frozen? ⟨b, 0, none⟩ = false ∧ w.frozen? ⟨b, 1, none⟩ = false ∧ w.frozen? ⟨b, 2, none⟩ = false ∧ w.frozen? ⟨b, 3, none⟩ = false) := by
  refine ⟨⟨?_, ?_, ?_, ?_⟩, ?_, ?_, ?_, ?_⟩ <;> simp [World.cell?, World.frozen?, h]
theorem set4_of {w : World} {b : Nat} {x y z u : Value} {t : TypeId} (h : w.heap[b]? = some (.cells #[x, y, z, u] t (0, 0))) (a : Value) :
    (w.setCell ⟨b, 0, none⟩ a).heap[b]? = some (.cells #[a, y, z, u] t (0, 0)) ∧ (w.setCell ⟨b, 1, none⟩ a).heap[b]? = some (.cells #[x, a, z, u] t (0, 0)) ∧ (w.setCell ⟨b, 2, none⟩ a).heap[b]? = some (.cells #[x, y, a, u] t (0, 0)) ∧ (w.setCell ⟨b, 3, none⟩ a).heap[b]? = some (.cells #[x, y, z, a] t (0, 0)) := by
  refine ⟨?_, ?_, ?_, ?_⟩ <;> simp [World.setCell, Array.getElem?_modify, h]
section
variable {w0 w w' w1 w8 : World} {pb : Nat} {v v' v2 : Value} {ss ss2 : List Value} {S S2 : List (List Pc)}
theorem B1.moved (h : B1 w0 w pb v ss S) (hb : Below w.heap.size w w') : B1 w0 w' pb v ss S := ⟨h.bel.trans (hb.mono h.bel.size), bel_get hb h.cn, h.low, h.rws.moved hb⟩
theorem B1.append (h : B1 w0 w pb v ss S) (hX : Below w.heap.size w w1) (h2 : Rws w1 w0.heap.size v2 ss2 S2) (hown : w8.ownsRow w0.heap.size 39 1 v' (S.length + S2.length) (ss ++ ss2)) (hg : w1.grownBy w8 v.ownBlock) :
    B1 w0 (w8.setCell ⟨pb, 0, none⟩ v') pb v' (ss ++ ss2) (S ++ S2) := by
  have h1 := h.moved hX
  have hn : v.ownBlock ≠ some pb := own_apart h1.rws.own h1.cn (by decide)
  have cn8 : w8.heap[pb]? = some (.cells #[v, .slice none 0 0, .slice none 0 0, .slice none 0 0] 58 (0, 0)) := (hg.block pb (hp_lt h1.cn) (fun e => hn e.symm)).trans h1.cn
  refine ⟨?_, (set4_of cn8 _).1, h.low, (h1.rws.append h2.len h2.parts hown hg).set (p := ⟨pb, 0, none⟩) cn8 (by decide) (by decide) _⟩
  refine Below.setCell ?_ (p := ⟨pb, 0, none⟩) h.low _
  exact h1.bel.grown hg h1.bel.size (fun k hk => (h1.rws.own.lt k hk).1)
end
theorem inF_typ {w : World} {B fb k : Nat} {vs : List Value} {F : List (List Int)} (h : Fol w B fb vs F) (hk : inF vs fb k) : ∃ cs t, w.heap[k]? = some (.cells cs t (0, 0)) ∧ (t = 23 ∨ t = 3) := by
  rcases hk with rfl | ⟨i, hi, hk⟩
  · exact ⟨_, _, h.tab, .inl rfl⟩
  · obtain ⟨cur, hc⟩ := own_typ (h.own i (by rw [← h.len]; exact hi)) hk
    exact ⟨_, _, hc, .inr rfl⟩
theorem AS.putF {w0 w w1 : World} {fb eb pb : Nat} {vs us : List Value} {F E : List (List Int)} (h : AS w0 w fb eb pb vs us F E) {i : Nat} (hi : i < F.length) {v' : Value} {r : List Int} (hown : w1.ownsRow w0.heap.size 3 1 v' r.length (ints1 r)) (hg : w.grownBy w1 (vs.getD i undef).ownBlock)
    (hp : ∀ k, v'.ownBlock = some k → (vs.getD i undef).ownBlock = some k ∨ w.heap.size ≤ k) :
    AS w0 (w1.setCell ⟨fb, i, none⟩ v') fb eb pb (vs.set i v') us (F.set i r) E ∧ Ta fb eb w vs us (w1.setCell ⟨fb, i, none⟩ v') (vs.set i v') us := by
  obtain ⟨h1, hag, h3⟩ := h.fol.put hi hown hg hp
  have hpb := hag.block pb h.pl h.far.1
  refine ⟨⟨h1, h.ens.ag (hag.sub fun k hk hin hf => h.two k hf hin), Nat.lt_of_lt_of_le h.pl hag.size, ?_, ?_, ⟨fun hin => ?_, h.far.2⟩, fun k hk hin => ?_, h.low, h.bel.trans (hag.below h.bel.size fun k hk hin => by have := (inF_lt h.fol hin).2; omega)⟩, ⟨hag.sub fun k _ hk => hk.1, h3, fun j hj => .inl hj⟩⟩
  · rw [List.length_set, ← h.pc]; simp only [World.cell?]; rw [hpb]
  · rw [← h.pe]; simp only [World.cell?]; rw [hpb]
  · rcases h3 pb hin with h4 | h4
    · exact h.far.1 h4
    · have := h.pl; omega
  · rcases h3 k hk with h4 | h4
    · exact h.two k h4 hin
    · have := (inF_lt h.ens hin).1; omega
structure BSt (w0 w : World) (fb eb qn pb : Nat) (vs us : List Value) (sv : Value) (ss : List Value) (S : List (List Pc)) (F E : List (List Int)) (n : Int) : Prop where
  ast : AS w0 w fb eb pb vs us F E
  box : w.heap[qn]? = some (.cells #[.int .i64 n] 3 (0, 0))
  qf : ¬ inF vs fb qn ∧ ¬ inF us eb qn ∧ pb ≠ qn ∧ w0.heap.size ≤ qn
  pn : w.heap[pb]? = some (.cells #[sv, .slice (some ⟨fb, 0, none⟩) F.length F.length, .slice (some ⟨eb, 0, none⟩) E.length E.length, .slice none 0 0] 58 (0, 0))
  rws : Rws w w0.heap.size sv ss S
section
variable {w0 w w' w1 : World} {fb eb qn pb : Nat} {vs us vs' us' : List Value} {sv : Value} {ss : List Value} {S : List (List Pc)} {F E F' E' : List (List Int)} {n n' : Int}
theorem BSt.moved (h : BSt w0 w fb eb qn pb vs us sv ss S F E n) (hb : Below w.heap.size w w') : BSt w0 w' fb eb qn pb vs us sv ss S F E n :=
  ⟨h.ast.moved hb, bel_get hb h.box, h.qf, bel_get hb h.pn, h.rws.moved hb⟩
theorem BSt.next (h : BSt w0 w fb eb qn pb vs us sv ss S F E n) (ha : AS w0 w' fb eb pb vs' us' F' E') (hag : Ag (fun j => ¬ inF vs fb j ∧ ¬ inF us eb j ∧ j ≠ qn) w w') (nf : ∀ j, inF vs' fb j → inF vs fb j ∨ w.heap.size ≤ j) (ne : ∀ j, inF us' eb j → inF us eb j ∨ w.heap.size ≤ j)
    (hbox : w'.heap[qn]? = some (.cells #[.int .i64 n'] 3 (0, 0))) (lF : F'.length = F.length) (lE : E'.length = E.length) : BSt w0 w' fb eb qn pb vs' us' sv ss S F' E' n' := by
  have hq := hp_lt h.box
  refine ⟨ha, hbox, ⟨fun hin => ?_, fun hin => ?_, h.qf.2.2⟩, ?_, ?_⟩
  · rcases nf qn hin with h4 | h4
    · exact h.qf.1 h4
    · omega
  · rcases ne qn hin with h4 | h4
    · exact h.qf.2.1 h4
    · omega
  · rw [hag.block pb (hp_lt h.pn) ⟨h.ast.far.1, h.ast.far.2, h.qf.2.2.1⟩, lF, lE]; exact h.pn
  · refine h.rws.ag hag fun i cs t z hi ht => ⟨fun hin => ?_, fun hin => ?_, fun e => ?_⟩
    · obtain ⟨cs', t', h1, h2⟩ := inF_typ h.ast.fol hin
      rw [hi] at h1
      simp at h1
      obtain ⟨_, rfl, _⟩ := h1
      rcases ht with rfl | rfl <;> rcases h2 with h2 | h2 <;> exact absurd h2 (by decide)
    · obtain ⟨cs', t', h1, h2⟩ := inF_typ h.ast.ens hin
      rw [hi] at h1
      simp at h1
      obtain ⟨_, rfl, _⟩ := h1
      rcases ht with rfl | rfl <;> rcases h2 with h2 | h2 <;> exact absurd h2 (by decide)
    · subst e
      rw [h.box] at hi
      simp at hi
      obtain ⟨_, rfl, _⟩ := hi
      rcases ht with h2 | h2 <;> exact absurd h2 (by decide)
theorem BSt.ps (h : BSt w0 w fb eb qn pb vs us sv ss S F E n) : PS w0 w fb qn pb vs F n :=
  ⟨h.ast.fol, h.box, h.ast.pl, h.ast.pc, ⟨h.ast.far.1, h.qf.1, h.qf.2.2.1⟩, ⟨h.qf.2.2.2, h.ast.low⟩, h.ast.bel⟩
theorem BSt.parted {r : (Bool × List Int × List Int) × Int × List (List Int)} {fv lv : Value} (h : BSt w0 w fb eb qn pb vs us sv ss S F E n) (hp : PPost w0 w fb qn pb vs r fv lv w') (lF : r.2.2.length = F.length) :
    ∃ vs', BSt w0 w' fb eb qn pb vs' us sv ss S r.2.2 E r.2.1 ∧ KP (fun j => ¬ inF vs' fb j ∧ ¬ inF us eb j) w' (fun x => Row x fv r.1.2.1.length (ints1 r.1.2.1)) ∧ KP (fun j => ¬ inF vs' fb j ∧ ¬ inF us eb j) w' (fun x => Row x lv r.1.2.2.length (ints1 r.1.2.2)) := by
  obtain ⟨⟨vs', h1, h2, h3⟩, h4⟩ := hp
  have hpb := h4.block pb h.ast.pl ⟨h.ast.far.1, h.qf.2.2.1⟩
  have hsub : ∀ k, k < w'.heap.size → (w.heap.size ≤ k ∧ k < w'.heap.size ∧ ¬ inF vs' fb k) → (¬ inF vs' fb k ∧ ¬ inF us eb k) := fun k _ hk => ⟨hk.2.2, fun hin => by have := (inF_lt h.ast.ens hin).1; omega⟩
  refine ⟨vs', h.next ⟨h1.fol, h.ast.ens.ag (h4.sub fun k _ hin => ⟨fun hf => h.ast.two k hf hin, fun e => h.qf.2.1 (e ▸ hin)⟩), h1.pl, h1.pc, ?_, ⟨h1.far.1, h.ast.far.2⟩, fun k hk hin => ?_, h.ast.low, h1.bel⟩ (h4.sub fun k _ hk => ⟨hk.1, hk.2.2⟩) h2 (fun j hj => .inl hj) h1.box lF rfl, (h3.sub hsub).mono fun _ h => h.1, (h3.sub hsub).mono fun _ h => h.2⟩
  · rw [← h.ast.pe]; simp only [World.cell?]; rw [hpb]
  · rcases h2 k hk with h5 | h5
    · exact h.ast.two k h5 hin
    · have := (inF_lt h.ast.ens hin).1; omega
theorem BSt.added (h : BSt w0 w fb eb qn pb vs us sv ss S F E n) (hp : EndAt w0 w fb eb pb vs us F' E' w') (lF : F'.length = F.length) (lE : E'.length = E.length) : ∃ vs' us', BSt w0 w' fb eb qn pb vs' us' sv ss S F' E' n := by
  obtain ⟨vs', us', h1, h2⟩ := hp.st
  refine ⟨vs', us', h.next h1 (h2.ag.sub fun k _ hk => ⟨hk.1, hk.2.1⟩) h2.nf h2.ne ?_ lF lE⟩
  rw [h2.ag.block qn (hp_lt h.box) ⟨h.qf.1, h.qf.2.1⟩]; exact h.box
theorem BSt.rowed (h : BSt w0 w fb eb qn pb vs us sv ss S F E n) {i : Nat} (hi : i < F.length) {v' : Value} {r : List Int} (hown : w1.ownsRow w.heap.size 3 1 v' r.length (ints1 r)) (hb : Below w.heap.size w w1) :
    BSt w0 (w1.setCell ⟨fb, i, none⟩ v') fb eb qn pb (vs.set i v') us sv ss S (F.set i r) E n := by
  obtain ⟨h1, h2⟩ := h.ast.putF hi (w1 := w1) (owns_base hown h.ast.bel.size) ⟨hb.os, hb.tape, hb.output, hb.size, fun k hk _ => hb.block k hk⟩ (fun k hk => .inr (hown.lt k hk).1)
  refine h.next h1 (h2.ag.sub fun k _ hk => ⟨hk.1, hk.2.1⟩) h2.nf h2.ne ?_ (by simp) rfl
  rw [h2.ag.block qn (hp_lt h.box) ⟨h.qf.1, h.qf.2.1⟩]; exact h.box
end
theorem rowsN_of {w : World} {B fb : Nat} {vs : List Value} {F : List (List Int)} (h : Fol w B fb vs F) : RowsN w (.slice (some ⟨fb, 0, none⟩) F.length F.length) vs F := by
  refine ⟨h.len, ?_, fun i hi => Row.owned (h.own i hi)⟩
  have := Row.owned (afrow_block (w := w) (g := fb) (n := F.length) (size := 1) h.tab (by simp [h.len]) (by have := h.few; unfold maxLen; omega))
  simpa using this
theorem rowsR_of {w : World} {B : Nat} {v : Value} {ss : List Value} {S : List (List Pc)} (h : Rws w B v ss S) : Rn.RowsR w v ss S := ⟨h.len, Row.owned h.own, fun i hi => Row.owned (h.parts i hi)⟩
namespace Nf
def ordK (F : List (List Int)) (k : Nat) : List (List Int) := (F.take k).map ordL ++ F.drop k
theorem ordK_len (F : List (List Int)) (k : Nat) : (ordK F k).length = F.length := by simp [ordK]; omega
theorem ordK_get (F : List (List Int)) (k : Nat) (h : k < F.length) : (ordK F k).getD k [] = F.getD k [] := by
  have hl : ((F.take k).map ordL).length = k := by simp; omega
  rw [List.getD_eq_getElem?_getD, List.getD_eq_getElem?_getD, ordK, List.getElem?_append_right (by omega), hl]
  simp
theorem ordK_next (F : List (List Int)) (k : Nat) (h : k < F.length) : ordK F (k + 1) = (ordK F k).set k (ordL (F.getD k [])) := by
  have hl : ((F.take k).map ordL).length = k := by simp; omega
  rw [ordK, ordK, List.set_append_right _ _ (by omega), hl, Nat.sub_self, List.drop_eq_getElem_cons h, List.set_cons_zero, List.getD_eq_getElem?_getD, List.getElem?_eq_getElem h, List.take_add_one, List.getElem?_eq_getElem h, List.map_append, List.append_assoc]
  rfl
theorem ordK_all (F : List (List Int)) : ordK F F.length = F.map ordL := by simp [ordK]
end Nf
theorem mk_rows (N : Nat) (hN : N ≤ 4000) (W : World) : (Instr.makeSlice 22 (.int .i64 (N : Int)) (.int .i64 (N : Int))).run Tryz.prog W = .ok (.slice (some ⟨W.heap.size, 0, none⟩) N N) (W.alloc (.cells (List.replicate N (Value.slice none 0 0)).toArray 23)) := by
  obtain ⟨ij, hj0, hj1, hj2, hj3⟩ : ∃ i, Tryz.prog.info? 23 = some i ∧ i.zero = some (.slice none 0 0) ∧ i.size = 1 ∧ i.bytes = 24 := info_parts (by kernel_rfl)
  have h := run_make (P := Tryz.prog) W 22 23 ij (.slice none 0 0) Tryz.underlying22 hj0 hj1 .i64 .i64 (N : Int) (N : Int) (by omega) (Int.le_refl _) (by rw [hj3]; omega) (by omega)
  rw [h, hj2]
  have e : madeCells (Value.slice none 0 0).cells ((N : Int).toNat * 1) = (List.replicate N (Value.slice none 0 0)).toArray := by
    apply Array.toList_inj.1
    rw [show ((N : Int).toNat * 1) = N by simp]
    exact toList_madeCells_one (Value.slice none 0 0) N
  rw [e]
  simp
theorem inF_repl {N fb k : Nat} (h : inF (List.replicate N (Value.slice none 0 0)) fb k) : k = fb := by
  rcases h with h | ⟨i, hi, hk⟩
  · exact h
  · rw [List.length_replicate] at hi
    rw [List.getD_eq_getElem?_getD, List.getElem?_replicate, if_pos hi] at hk
    simp [Value.ownBlock] at hk
theorem fol_repl {w : World} {B fb N : Nat} (h : w.heap[fb]? = some (.cells (List.replicate N (Value.slice none 0 0)).toArray 23 (0, 0))) (hB : B ≤ fb) (hN : N ≤ 4000) : Fol w B fb (List.replicate N (Value.slice none 0 0)) (List.replicate N []) := by
  refine ⟨by simp, h, fun i hi => ?_, fun i j k hi hj h1 h2 => ?_, hB, by simpa using hN⟩
  · rw [List.length_replicate] at hi
    rw [List.getD_eq_getElem?_getD, List.getElem?_replicate, if_pos hi, List.getD_eq_getElem?_getD, List.getElem?_replicate, if_pos hi]
    exact World.ownsRow_nil _ _ _ _
  · rw [List.length_replicate] at hi
    rw [List.getD_eq_getElem?_getD, List.getElem?_replicate, if_pos hi] at h1
    simp [Value.ownBlock] at h1
theorem b2_start {w0 wr W : World} {pb N : Nat} {v : Value} {ss : List Value} {S : List (List Pc)} (h : B1 w0 wr pb v ss S) (hN : N ≤ 4000)
    (hW : W = ((((wr.setCell ⟨pb, 1, none⟩ (.slice (some ⟨wr.heap.size, 0, none⟩) N N)).setCell ⟨pb, 2, none⟩ (.slice (some ⟨wr.heap.size + 1, 0, none⟩) N N)).alloc (.cells (Array.replicate N (Value.slice none 0 0)) 23)).alloc (.cells (Array.replicate N (Value.slice none 0 0)) 23)).alloc (.cells #[.int .i64 1] 3)) :
    BSt w0 W wr.heap.size (wr.heap.size + 1) (wr.heap.size + 1 + 1) pb (List.replicate N (.slice none 0 0)) (List.replicate N (.slice none 0 0)) v ss S (List.replicate N []) (List.replicate N []) 1 := by
  obtain ⟨A, hA⟩ : ∃ A, A = Obj.cells (Array.replicate N (Value.slice none 0 0)) 23 (0, 0) := ⟨_, rfl⟩
  have hA2 : A = Obj.cells (List.replicate N (Value.slice none 0 0)).toArray 23 (0, 0) := by rw [hA, List.toArray_replicate]
  have hpl := hp_lt h.cn
  have hlow := h.low
  have hbs := h.bel.size
  obtain ⟨W1, h1⟩ : ∃ W1, W1 = wr.setCell ⟨pb, 1, none⟩ (.slice (some ⟨wr.heap.size, 0, none⟩) N N) := ⟨_, rfl⟩
  obtain ⟨W2, h2⟩ : ∃ W2, W2 = W1.setCell ⟨pb, 2, none⟩ (.slice (some ⟨wr.heap.size + 1, 0, none⟩) N N) := ⟨_, rfl⟩
  obtain ⟨W3, h3⟩ : ∃ W3, W3 = W2.alloc A := ⟨_, rfl⟩
  obtain ⟨W4, h4⟩ : ∃ W4, W4 = W3.alloc A := ⟨_, rfl⟩
  have hW5 : W = W4.alloc (.cells #[.int .i64 1] 3) := by rw [hW, h4, h3, h2, h1, hA]
  have z1 : W1.heap.size = wr.heap.size := by rw [h1]; simp [World.setCell]
  have z2 : W2.heap.size = wr.heap.size := by rw [h2]; simp [World.setCell, z1]
  have z3 : W3.heap.size = wr.heap.size + 1 := by rw [h3]; simp [z2]
  have z4 : W4.heap.size = wr.heap.size + 2 := by rw [h4]; simp [z3]
  have b3 : Below W2.heap.size W2 W3 := by rw [h3]; exact bel_new (Below.refl _ _) _
  have b4 : Below W3.heap.size W3 W4 := by rw [h4]; exact bel_new (Below.refl _ _) _
  have b5 : Below W4.heap.size W4 W := by rw [hW5]; exact bel_new (Below.refl _ _) _
  have p1 := (set4_of h.cn (.slice (some ⟨wr.heap.size, 0, none⟩) N N)).2.1
  rw [← h1] at p1
  have p2 := (set4_of p1 (.slice (some ⟨wr.heap.size + 1, 0, none⟩) N N)).2.2.1
  rw [← h2] at p2
  have p5 := bel_get b5 (bel_get b4 (bel_get b3 p2))
  have f3 : W3.heap[wr.heap.size]? = some A := by
    rw [h3]
    have := heap_alloc_new W2 A
    rwa [z2] at this
  have f5 := bel_get b5 (bel_get b4 f3)
  have e4 : W4.heap[wr.heap.size + 1]? = some A := by
    rw [h4]
    have := heap_alloc_new W3 A
    rwa [z3] at this
  have e5 := bel_get b5 e4
  have q5 : W.heap[wr.heap.size + 1 + 1]? = some (.cells #[.int .i64 1] 3 (0, 0)) := by
    rw [hW5]
    have := heap_alloc_new W4 (.cells #[.int .i64 1] 3)
    rwa [z4] at this
  have hB : Below w0.heap.size w0 W := by
    have a1 : Below w0.heap.size w0 W1 := by rw [h1]; exact h.bel.setCell (p := ⟨pb, 1, none⟩) hlow _
    have a2 : Below w0.heap.size w0 W2 := by rw [h2]; exact a1.setCell (p := ⟨pb, 2, none⟩) hlow _
    exact ((a2.trans (b3.mono (by omega))).trans (b4.mono (by omega))).trans (b5.mono (by omega))
  have hR : Rws W w0.heap.size v ss S := by
    have a1 : Rws W1 w0.heap.size v ss S := by rw [h1]; exact h.rws.set (p := ⟨pb, 1, none⟩) h.cn (by decide) (by decide) _
    have a2 : Rws W2 w0.heap.size v ss S := by rw [h2]; exact a1.set (p := ⟨pb, 2, none⟩) p1 (by decide) (by decide) _
    exact ((a2.moved b3).moved b4).moved b5
  rw [hA2] at f5 e5
  obtain ⟨⟨-, c1, c2, -⟩, -⟩ := cells4_of p5
  have hpW := hp_lt p5
  refine ⟨⟨fol_repl f5 hbs hN, fol_repl e5 (by omega) hN, hpW, ?_, ?_, ⟨fun hin => ?_, fun hin => ?_⟩, fun k hk hin => ?_, hlow, hB⟩, q5, ⟨fun hin => ?_, fun hin => ?_, by omega, by omega⟩, ?_, hR⟩
  · rw [List.length_replicate]; exact c1
  · rw [List.length_replicate]; exact c2
  · have := inF_repl hin; omega
  · have := inF_repl hin; omega
  · have := inF_repl hin; have := inF_repl hk; omega
  · have := inF_repl hin; omega
  · have := inF_repl hin; omega
  · rw [List.length_replicate]; exact p5
theorem nis_of {w0 w w5 : World} {fb eb qn pb cv cc : Nat} {vs us ss : List Value} {ov co : Option Addr} {S : List (List Pc)} {F E : List (List Int)} {C : List Pc} {n : Int} (h : BSt w0 w fb eb qn pb vs us (.slice ov S.length cv) ss S F E n)
    (hS : S.length ≤ 1000) (lF : F.length = S.length) (lE : E.length = S.length) (hsh : (∀ s ∈ S, s.length ≤ 1000) ∧ (∀ r ∈ F, r.length ≤ 1000) ∧ (∀ r ∈ E, r.length ≤ 1000)) (hfit : ∀ r ∈ F, ∀ x ∈ r, 0 ≤ x ∧ x < (S.length : Int))
    (hb : Below w.heap.size w w5) (hu : w5.ownsRow w.heap.size 54 2 (.slice co C.length cc) C.length (flatK .i32 C)) :
    NIs (w5.setCell ⟨pb, 3, none⟩ (.slice co C.length cc)) pb S F E C ov (some ⟨fb, 0, none⟩) (some ⟨eb, 0, none⟩) co cv F.length E.length cc ss vs us ∧ Below w0.heap.size w0 (w5.setCell ⟨pb, 3, none⟩ (.slice co C.length cc)) := by
  have h5 := h.moved hb
  have hp := (set4_of h5.pn (.slice co C.length cc)).2.2.2
  obtain ⟨⟨c0, c1, c2, c3⟩, -⟩ := cells4_of hp
  have hag : ∀ (X : Nat → Prop), ¬ X pb → Ag X w5 (w5.setCell ⟨pb, 3, none⟩ (.slice co C.length cc)) := fun X hX => (Ag.refl X w5).setCell hX _
  have hpl := h.ast.pl
  refine ⟨⟨hp_lt hp, c0, c1, c2, c3, rowsR_of (h5.rws.set (p := ⟨pb, 3, none⟩) h5.pn (by decide) (by decide) _), rowsN_of (h5.ast.fol.ag (hag _ h5.ast.far.1)), rowsN_of (h5.ast.ens.ag (hag _ h5.ast.far.2)), Row.owned (ownsRow_setCell_other hu (fun e => by have := (hu.lt pb e).1; omega) _), lF, lE, hS, hsh, hfit⟩, h5.ast.bel.setCell (p := ⟨pb, 3, none⟩) h5.ast.low _⟩
end Go.Proofs.YtmgfpcblbbpahaaGreat
