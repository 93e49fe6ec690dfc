/- regex's node.read. -/
import Derived.Test.YtmgfpcblbbpahaaGreatNfMark
import Derived.Test.YtmgfpcblbbpahaaGreatRnOr
import Derived.Deep.QuietTactic
import Derived.BigQuiet
set_option linter.unusedVariables false
set_option linter.unusedSimpArgs false
namespace Go.Proofs.YtmgfpcblbbpahaaGreat
open Go.RowKit Ru

/-- what read leaves -/
def RPost (w0 w : World) (e : RE) (t : FT) (en : Bool) (r : Int) (x : Ending) (w' : World) : Prop := (∃ y, x = .returned y) ∧ Nd w0 w' e (rd e t en r) ∧ Ag (fun k => k ∉ t.blks) w w'
def RdIh (w0 : World) (N : Nat) : Prop := ∀ (e : RE) (t : FT), e.size ≤ N → e.prt = true → ∀ (w : World), Nd w0 w e t → t.blks.Nodup → Below w0.heap.size w0 w → ∀ (en : Bool) (r : Int),
  Calls Tryz.prog 42 #[.pointer (some ⟨t.q, 0, none⟩), .bool en, .int .i32 r] w (RPost w0 w e t en r)
theorem NodeF.five {w0 w : World} {q : Nat} {e : RE} {f : Bool} {qs : List Nat} (h : NodeF w0 w q e f qs) : ∃ o c pv, (w.cell? ⟨q, 0, none⟩ = some (.int .i64 e.kind) ∧ w.cell? ⟨q, 1, none⟩ = some (.slice o e.set.length c) ∧ w.cell? ⟨q, 2, none⟩ = some pv ∧ w.cell? ⟨q, 3, none⟩ = some (.bool e.emp) ∧ w.cell? ⟨q, 4, none⟩ = some (.bool f) ∧ w.frozen? ⟨q, 4, none⟩ = false) ∧
    q < w.heap.size ∧ Row w0 (.slice o e.set.length c) e.set.length (flatK .i32 e.set) ∧ w.ownsRow w0.heap.size 72 1 pv qs.length (ptrs qs) := by
  obtain ⟨sv, pv, h1, h2, h3, h4⟩ := h
  obtain ⟨o, c, rfl⟩ := Row.form h3
  exact ⟨o, c, pv, by simp [World.cell?, World.frozen?, h1], hp_lt h1, h3, h4⟩
set_option maxRecDepth 100000 in
set_option maxHeartbeats 4000000 in
theorem read_idle (w0 : World) (k : Int) (s : List Pc) (q : Nat) (f : Bool) (hk : k = 0 ∨ k = 1) (w : World) (h : Nd w0 w (.mk k s []) (.leaf q f)) (en : Bool) (r : Int) :
    Calls Tryz.prog 42 #[.pointer (some ⟨q, 0, none⟩), .bool en, .int .i32 r] w (RPost w0 w (.mk k s []) (.leaf q f) en r) := by
  have H := Lib.hid h
  obtain ⟨o, c, pv, ⟨c0, c1, c2, c3, c4, f4⟩, hl, hr, ho⟩ := h.2.five
  clear h hr ho
  rcases hk with rfl | rfl
  · go_enter Tryz.func42, Tryz.ntmps42
    go_wp2_with fail
    go_end0
    exact ⟨⟨_, rfl⟩, by unfold rd; exact H.out, Ag.refl _ _⟩
  · go_enter Tryz.func42, Tryz.ntmps42
    go_wp2_with fail
    go_end0
    exact ⟨⟨_, rfl⟩, by unfold rd; exact H.out, Ag.refl _ _⟩
set_option maxRecDepth 100000 in
set_option maxHeartbeats 4000000 in
theorem read_set (w0 : World) (s : List Pc) (q : Nat) (f : Bool) (hs : s.length ≤ 1000) (w : World) (h : Nd w0 w (.mk 2 s []) (.leaf q f)) (hb : Below w0.heap.size w0 w) (en : Bool) (r : Int) :
    Calls Tryz.prog 42 #[.pointer (some ⟨q, 0, none⟩), .bool en, .int .i32 r] w (RPost w0 w (.mk 2 s []) (.leaf q f) en r) := by
  have H := Lib.hid h
  obtain ⟨o, c, pv, ⟨c0, c1, c2, c3, c4, f4⟩, hl, hr, ho⟩ := h.2.five
  have hh := Rn.has_any s r _ w (hr.below hb) (by omega)
  have HH := Lib.hid hh
  have hfin : ∀ (w' : World) (b : Bool), Below w.heap.size w w' → b = (en && has s r) → Nd w0 (w'.setCell ⟨q, 4, none⟩ (.bool b)) (.mk 2 s []) (rd (.mk 2 s []) (.leaf q f) en r) ∧ Ag (fun k => k ∉ (FT.leaf q f).blks) w (w'.setCell ⟨q, 4, none⟩ (.bool b)) := by
    rintro w' _ hw rfl
    have h2 := H.out.moved hw
    refine ⟨⟨rfl, ?_⟩, (Ag.of hw).setCell (fun h => h (by simp [FT.blks])) _⟩
    have := h2.2.mark (en && has s r)
    simpa [rd, RE.kind, RE.set] using this
  have HF := Lib.hid hfin
  clear h hr ho hh hfin
  cases en
  · go_enter Tryz.func42, Tryz.ntmps42
    go_wp2_with fail
    go_end0
    exact ⟨⟨_, rfl⟩, HF.out _ _ (by repeat (first | exact Below.refl _ _ | refine Below.drew ?_)) (by simp)⟩
  · go_enter Tryz.func42, Tryz.ntmps42
    go_wp2_with (go_at_call 39; refine HH.out.mono ?_; rintro x w3 ⟨rfl, hb3⟩
                 have q4 : w3.cell? ⟨q, 4, none⟩ = some (.bool f) := (hb3.cell (p := ⟨q, 4, none⟩) hl).trans c4
                 have g4 : w3.frozen? ⟨q, 4, none⟩ = false := by rw [← f4]; simp only [World.frozen?]; rw [hb3.block q hl])
    go_end0
    exact ⟨⟨_, rfl⟩, HF.out _ _ hb3 (by simp)⟩
/-- a node with parts -/
structure NX (w0 w : World) (q : Nat) (e : RE) (f : Bool) (qs : List Nat) (o : Option Addr) (c g pc : Nat) : Prop where
  hp : w.heap[q]? = some (.cells #[.int .i64 e.kind, .slice o e.set.length c, .slice (some ⟨g, 0, none⟩) qs.length pc, .bool e.emp, .bool f] 76 (0, 0))
  low : w0.heap.size ≤ q
  row : Row w0 (.slice o e.set.length c) e.set.length (flatK .i32 e.set)
  own : w.ownsRow w0.heap.size 72 1 (.slice (some ⟨g, 0, none⟩) qs.length pc) qs.length (ptrs qs)
section
variable {w0 w w' : World} {q : Nat} {e : RE} {f : Bool} {qs L : List Nat} {o : Option Addr} {c g pc : Nat}
theorem NodeF.nx (h : NodeF w0 w q e f qs) (hq : 0 < qs.length) : ∃ o c g pc, NX w0 w q e f qs o c g pc := by
  obtain ⟨sv, pv, h1, h2, h3, h4⟩ := h
  obtain ⟨o, c, rfl⟩ := Row.form h3
  rcases h4.2 with ⟨h0, h5⟩ | ⟨g, cap, cur, hv, _⟩
  · omega
  · subst hv; exact ⟨o, c, g, cap, h1, h2, h3, h4⟩
theorem NX.nodeF (h : NX w0 w q e f qs o c g pc) : NodeF w0 w q e f qs := ⟨_, _, h.hp, h.low, h.row, h.own⟩
theorem NX.frame (h : NX w0 w q e f qs o c g pc) (k : Ag (fun k => k ∉ L) w w') (hL : AllN w L) (hq : q ∉ L) : NX w0 w' q e f qs o c g pc :=
  ⟨(k.block q (hp_lt h.hp) hq).trans h.hp, h.low, h.row, owns_ag h.own k fun j hj hin => by obtain ⟨cs, z, hc⟩ := hL j hin; exact own_apart h.own hc (by decide) hj⟩
theorem NX.cells (h : NX w0 w q e f qs o c g pc) : (w.cell? ⟨q, 0, none⟩ = some (.int .i64 e.kind) ∧ w.cell? ⟨q, 2, none⟩ = some (.slice (some ⟨g, 0, none⟩) qs.length pc) ∧ w.cell? ⟨q, 3, none⟩ = some (.bool e.emp) ∧ w.cell? ⟨q, 4, none⟩ = some (.bool f) ∧ w.frozen? ⟨q, 4, none⟩ = false) := by
  have h1 := h.hp
  simp [World.cell?, World.frozen?, h1]
theorem NX.part (h : NX w0 w q e f qs o c g pc) {i x : Nat} (hi : qs[i]? = some x) : w.cell? ⟨g, i, none⟩ = some (.pointer (some ⟨x, 0, none⟩)) := by
  have := h.own.cells (g := g) (by simp [Value.ownBlock]) i (.pointer (some ⟨x, 0, none⟩)) (by simp [ptrs, hi])
  have e1 : ((⟨g, 0, none⟩ : Addr).add i) = ⟨g, i, none⟩ := by unfold Addr.add; by_cases e : i = 0 <;> simp [e]
  rwa [e1] at this
end
theorem Nd.fin {w0 w : World} {e : RE} {t : FT} (h : Nd w0 w e t) : w.cell? ⟨t.q, 4, none⟩ = some (.bool t.f) ∧ w.cell? ⟨t.q, 3, none⟩ = some (.bool e.emp) := by
  obtain ⟨qs, hn⟩ := h.nodeF
  have := hn.cells
  exact ⟨this.2.1, this.1⟩
theorem ag_wide {A B : List Nat} {w w' : World} (h : Ag (fun k => k ∉ A) w w') (hAB : ∀ k ∈ A, k ∈ B) : Ag (fun k => k ∉ B) w w' := h.sub fun k _ hk hin => hk (hAB k hin)
theorem rd_star (s : List Pc) (a : RE) (q : Nat) (f : Bool) (ta : FT) (en : Bool) (r : Int) : rd (.mk 5 s [a]) (.one q f ta) en r = .one q (rd a ta (en || ta.f) r).f (rd a ta (en || ta.f) r) := by
  rw [rd]; simp [RE.parts]
theorem rd_alt (s : List Pc) (a b : RE) (q : Nat) (f : Bool) (ta tb : FT) (en : Bool) (r : Int) : rd (.mk 4 s [a, b]) (.two q f ta tb) en r = .two q ((rd a ta en r).f || (rd b tb en r).f) (rd a ta en r) (rd b tb en r) := by
  rw [rd]; simp [RE.parts, RE.kind]
theorem rd_seq (s : List Pc) (a b : RE) (q : Nat) (f : Bool) (ta tb : FT) (en : Bool) (r : Int) : rd (.mk 3 s [a, b]) (.two q f ta tb) en r = .two q ((rd b tb (ta.f || (en && a.emp)) r).f || ((rd a ta en r).f && b.emp)) (rd a ta en r) (rd b tb (ta.f || (en && a.emp)) r) := by
  rw [rd]; simp [RE.parts, RE.kind]
/-- one part has been read, and the node marked -/
theorem one_fin {w0 w w3 : World} {e a : RE} {q : Nat} {f b : Bool} {ta ta' : FT} {o : Option Addr} {c g pc : Nat} (he : e.parts = [a]) (hx : NX w0 w q e f [ta.q] o c g pc) (hn : (FT.one q f ta).blks.Nodup) (hN : AllN w ta.blks) (h3 : Nd w0 w3 a ta') (hbl : ta'.blks = ta.blks) (hq : ta'.q = ta.q) (hag : Ag (fun k => k ∉ ta.blks) w w3) :
    NX w0 w3 q e f [ta.q] o c g pc ∧ Nd w0 (w3.setCell ⟨q, 4, none⟩ (.bool b)) e (.one q b ta') ∧ Ag (fun k => k ∉ (FT.one q f ta).blks) w (w3.setCell ⟨q, 4, none⟩ (.bool b)) := by
  have hnq : q ∉ ta.blks := (List.nodup_cons.1 hn).1
  have hx3 := hx.frame hag hN hnq
  refine ⟨hx3, ⟨a, he, ?_, ?_⟩, (ag_wide hag fun k hk => by simp [FT.blks, hk]).setCell (fun h => h (by simp [FT.blks])) _⟩
  · rw [hq]; exact hx3.nodeF.mark b
  · refine h3.frame (L := [q]) ((Ag.refl _ w3).setCell (fun h => h (by simp)) _) (fun k hk => by rw [List.mem_singleton] at hk; subst hk; exact ⟨_, _, hx3.hp⟩) fun k hk hin => ?_
    rw [List.mem_singleton] at hin; subst hin
    rw [hbl] at hk
    exact hnq hk
/-- two parts have been read, and the node marked -/
theorem two_fin {w0 w w3 w5 : World} {e a b : RE} {q : Nat} {f : Bool} {ta tb ta' tb' : FT} {o : Option Addr} {c g pc : Nat} (he : e.parts = [a, b]) (hx : NX w0 w q e f [ta.q, tb.q] o c g pc) (hn : (FT.two q f ta tb).blks.Nodup) (hA : AllN w ta.blks) (hB : AllN w tb.blks) (hb : Nd w0 w b tb)
    (h3 : Nd w0 w3 a ta') (hbl : ta'.blks = ta.blks) (hq : ta'.q = ta.q) (hag : Ag (fun k => k ∉ ta.blks) w w3) :
    NX w0 w3 q e f [ta.q, tb.q] o c g pc ∧ Nd w0 w3 b tb ∧
      (Nd w0 w5 b tb' → tb'.blks = tb.blks → tb'.q = tb.q → Ag (fun k => k ∉ tb.blks) w3 w5 → NX w0 w5 q e f [ta.q, tb.q] o c g pc ∧ Nd w0 w5 a ta' ∧ ∀ x : Bool, Nd w0 (w5.setCell ⟨q, 4, none⟩ (.bool x)) e (.two q x ta' tb') ∧ Ag (fun k => k ∉ (FT.two q f ta tb).blks) w (w5.setCell ⟨q, 4, none⟩ (.bool x))) := by
  have hc := List.nodup_cons.1 hn
  have hnqa : q ∉ ta.blks := fun h => hc.1 (List.mem_append.2 (.inl h))
  have hnqb : q ∉ tb.blks := fun h => hc.1 (List.mem_append.2 (.inr h))
  have hd := (List.nodup_append.1 hc.2).2.2
  have hx3 := hx.frame hag hA hnqa
  have hb3 := hb.frame hag hA fun k hk hin => hd k hin k hk rfl
  refine ⟨hx3, hb3, fun h5 hbl5 hq5 hag5 => ?_⟩
  have hB3 := hb3.all
  have hx5 := hx3.frame hag5 hB3 hnqb
  have ha5 := h3.frame hag5 hB3 fun k hk hin => by rw [hbl] at hk; exact hd k hk k hin rfl
  refine ⟨hx5, ha5, fun x => ?_⟩
  have hset : ∀ {t : FT} {e' : RE}, Nd w0 w5 e' t → q ∉ t.blks → Nd w0 (w5.setCell ⟨q, 4, none⟩ (.bool x)) e' t := fun h hnq => h.frame (L := [q]) ((Ag.refl _ w5).setCell (fun h => h (by simp)) _) (fun k hk => by rw [List.mem_singleton] at hk; subst hk; exact ⟨_, _, hx5.hp⟩) fun k hk hin => by
    rw [List.mem_singleton] at hin; subst hin; exact hnq hk
  refine ⟨⟨a, b, he, ?_, hset ha5 (by rw [hbl]; exact hnqa), hset h5 (by rw [hbl5]; exact hnqb)⟩, ?_⟩
  · rw [hq, hq5]; exact hx5.nodeF.mark x
  · exact ((ag_wide hag fun k hk => by simp [FT.blks, hk]).trans (ag_wide hag5 fun k hk => by simp [FT.blks, hk])).setCell (fun h => h (by simp [FT.blks])) _
set_option maxRecDepth 100000 in
set_option maxHeartbeats 8000000 in
theorem read_star (w0 : World) (N : Nat) (ih : RdIh w0 N) (s : List Pc) (a : RE) (q : Nat) (f : Bool) (ta : FT) (hs : a.size ≤ N) (hp : a.prt = true) (w : World) (h : Nd w0 w (.mk 5 s [a]) (.one q f ta)) (hn : (FT.one q f ta).blks.Nodup) (hb : Below w0.heap.size w0 w) (en : Bool) (r : Int) :
    Calls Tryz.prog 42 #[.pointer (some ⟨q, 0, none⟩), .bool en, .int .i32 r] w (RPost w0 w (.mk 5 s [a]) (.one q f ta) en r) := by
  obtain ⟨ea, he, h2, h3⟩ := h
  obtain rfl : a = ea := by simpa [RE.parts] using he
  obtain ⟨o, c, g, pc, hx⟩ := h2.nx (by simp)
  have hna : ta.blks.Nodup := (List.nodup_cons.1 hn).2
  have hc := fun (W : World) (hW : Below w.heap.size w W) (en' : Bool) => ih a ta hs hp W (h3.moved hW) hna (hb.trans (hW.mono hb.size)) en' r
  have hfin := fun (W w3 : World) (hW : Below w.heap.size w W) (b en' : Bool) (h4 : Nd w0 w3 a (rd a ta en' r)) (h5 : Ag (fun k => k ∉ ta.blks) W w3) => one_fin (b := b) he hx hn h3.all h4 (rd_blks _ _ _ _) (rd_q _ _ _ _) ((Ag.of hW).trans h5)
  obtain ⟨c0, c2, c3, c4, f4⟩ := hx.cells
  have g0 := hx.part (i := 0) rfl
  obtain ⟨t4, -⟩ := h3.fin
  have HC := Lib.hid hc
  have HF := Lib.hid hfin
  clear hc hfin h2 h3 hx hn hna ih he
  rw [show ([ta.q] : List Nat).length = 1 from rfl] at c2
  obtain ⟨ι, K, hne, hkb, hks⟩ := kept_family w
  have hg0 := World.block_lt_of_cell? w _ g0
  have ht4 := World.block_lt_of_cell? w _ t4
  have hc2 := World.block_lt_of_cell? w _ c2
  have k2 : ∀ i, (K i).cell? ⟨q, 2, none⟩ = some (.slice (some ⟨g, 0, none⟩) 1 pc) := fun i => ((hkb i).cell (p := ⟨q, 2, none⟩) hc2).trans c2
  have kg : ∀ i, (K i).cell? ⟨g, 0, none⟩ = some (.pointer (some ⟨ta.q, 0, none⟩)) := fun i => ((hkb i).cell (p := ⟨g, 0, none⟩) hg0).trans g0
  have kt : ∀ i, (K i).cell? ⟨ta.q, 4, none⟩ = some (.bool ta.f) := fun i => ((hkb i).cell (p := ⟨ta.q, 4, none⟩) ht4).trans t4
  have kS := hks _ (Below.refl w.heap.size w).drew
  have KB := Lib.hid hkb
  have hql := hc2
  clear hkb hks hg0 ht4
  have hrd := rd_star s a q f ta en r
  have HRD := Lib.hid hrd
  clear hrd
  have hend : ∀ (iw : ι) (en' : Bool) (w3 : World), en' = (en || ta.f) → Nd w0 w3 a (rd a ta en' r) → Ag (fun k => k ∉ ta.blks) (K iw) w3 → (w3.cell? ⟨q, 2, none⟩ = some (.slice (some ⟨g, 0, none⟩) 1 pc) ∧ w3.cell? ⟨g, 0, none⟩ = some (.pointer (some ⟨ta.q, 0, none⟩)) ∧ w3.cell? ⟨q, 4, none⟩ = some (.bool f) ∧ w3.frozen? ⟨q, 4, none⟩ = false ∧ w3.cell? ⟨ta.q, 4, none⟩ = some (.bool (rd a ta en' r).f)) ∧
      (Nd w0 (w3.setCell ⟨q, 4, none⟩ (.bool (rd a ta en' r).f)) (.mk 5 s [a]) (rd (.mk 5 s [a]) (.one q f ta) en r) ∧ Ag (fun k => k ∉ (FT.one q f ta).blks) w (w3.setCell ⟨q, 4, none⟩ (.bool (rd a ta en' r).f))) := by
    rintro iw _ w3 rfl hd hag
    obtain ⟨h1, h2, h3⟩ := HF.out (K iw) w3 (KB.out iw) (rd a ta (en || ta.f) r).f _ hd hag
    have hcs := h1.cells
    have hf := hd.fin.1
    rw [rd_q] at hf
    exact ⟨⟨by simpa using hcs.2.1, h1.part (i := 0) rfl, hcs.2.2.2.1, hcs.2.2.2.2, hf⟩, by rw [HRD.out]; exact h2, h3⟩
  have HE := Lib.hid hend
  clear hend
  cases en
  all_goals (
    go_enter Tryz.func42, Tryz.ntmps42
    go_upto_region 14 with (fail)
    refine region_tail K 19 (by kernel_rfl) (by kernel_rfl) kS ?_
    simp only [List.take_succ_cons, List.take_zero, List.drop_succ_cons, List.drop_zero]
    repeat (go_big_quiet_step (fail))
    refine wpQuiet_nil ?_
    rintro _ ⟨iw, rfl⟩
    go_wp2_with fail
    refine (HC.out (K iw) (KB.out iw) _).mono ?_
    rintro x w3 ⟨⟨y, rfl⟩, hd3, hag3⟩
    obtain ⟨⟨d0, d1, d2, d3, d4⟩, hpost⟩ := HE.out iw _ w3 (by simp) hd3 hag3
    have HPO := Lib.hid hpost
    clear hpost hd3 hag3
    go_wp2_with fail
    go_end0
    exact ⟨⟨_, rfl⟩, HPO.out⟩)
set_option maxRecDepth 100000 in
set_option maxHeartbeats 8000000 in
theorem read_alt (w0 : World) (N : Nat) (ih : RdIh w0 N) (s : List Pc) (a b : RE) (q : Nat) (f : Bool) (ta tb : FT) (hs : a.size ≤ N) (hs2 : b.size ≤ N) (hp : a.prt = true) (hp2 : b.prt = true) (w : World) (h : Nd w0 w (.mk 4 s [a, b]) (.two q f ta tb)) (hn : (FT.two q f ta tb).blks.Nodup) (hb : Below w0.heap.size w0 w) (en : Bool) (r : Int) :
    Calls Tryz.prog 42 #[.pointer (some ⟨q, 0, none⟩), .bool en, .int .i32 r] w (RPost w0 w (.mk 4 s [a, b]) (.two q f ta tb) en r) := by
  obtain ⟨ea, eb, he, h2, h3, h4⟩ := h
  obtain ⟨rfl, rfl⟩ : a = ea ∧ b = eb := by simpa [RE.parts] using he
  obtain ⟨o, c, g, pc, hx⟩ := h2.nx (by simp)
  have hnn := List.nodup_append.1 (List.nodup_cons.1 hn).2
  have hc1 := ih a ta hs hp w h3 hnn.1 hb en r
  have h30 := h3.low
  have hc2 := fun (w3 : World) (d3 : Nd w0 w3 a (rd a ta en r)) (g3 : Ag (fun k => k ∉ ta.blks) w w3) => ih b tb hs2 hp2 w3 (two_fin (w5 := w3) (tb' := tb) he hx hn h3.all h4.all h4 d3 (rd_blks _ _ _ _) (rd_q _ _ _ _) g3).2.1 hnn.2.1 (hb.trans (g3.below hb.size fun k hk hin => by have := (h30 k hin).1; omega)) en r
  obtain ⟨c0, c2, c3, c4, f4⟩ := hx.cells
  have g0 := hx.part (i := 0) rfl
  have HC1 := Lib.hid hc1
  have HC2 := Lib.hid hc2
  have HS := Lib.hid fun (w3 w5 : World) (d3 : Nd w0 w3 a (rd a ta en r)) (g3 : Ag (fun k => k ∉ ta.blks) w w3) => two_fin (w3 := w3) (w5 := w5) (tb' := rd b tb en r) he hx hn h3.all h4.all h4 d3 (rd_blks _ _ _ _) (rd_q _ _ _ _) g3
  have HRD := Lib.hid (rd_alt s a b q f ta tb en r)
  clear hc1 hc2 h2 h3 h4 hx hn ih he hnn h30
  rw [show ([ta.q, tb.q] : List Nat).length = 2 from rfl] at c2
  go_enter Tryz.func42, Tryz.ntmps42
  go_wp2_with fail
  refine HC1.out.mono ?_
  rintro x w3 ⟨⟨y, rfl⟩, d3, g3⟩
  have hx3 := (HS.out w3 w3 d3 g3).1
  obtain ⟨-, e2, -, -, -⟩ := hx3.cells
  have e1 := hx3.part (i := 1) rfl
  rw [show ([ta.q, tb.q] : List Nat).length = 2 from rfl] at e2
  have HC3 := Lib.hid (HC2.out w3 d3 g3)
  have HS3 := Lib.hid fun w5 => (HS.out w3 w5 d3 g3).2.2
  clear hx3 d3 g3
  go_wp2_with fail
  refine HC3.out.mono ?_
  rintro x w5 ⟨⟨y2, rfl⟩, d5, g5⟩
  obtain ⟨hx5, ha5, hfin⟩ := HS3.out w5 d5 (rd_blks _ _ _ _) (rd_q _ _ _ _) g5
  obtain ⟨-, i2, -, i4, j4⟩ := hx5.cells
  have i0 := hx5.part (i := 0) rfl
  have i1 := hx5.part (i := 1) rfl
  rw [show ([ta.q, tb.q] : List Nat).length = 2 from rfl] at i2
  have fa := ha5.fin.1
  have fb := d5.fin.1
  rw [rd_q] at fa fb
  have HFI := Lib.hid (hfin ((rd a ta en r).f || (rd b tb en r).f))
  clear hx5 ha5 hfin d5 g5
  rw [← HRD.out] at HFI
  generalize (rd b tb en r).f = zb at fb HFI
  cases hz : (rd a ta en r).f
  all_goals (
    rw [hz] at fa HFI
    clear hz
    go_wp2_with fail
    go_end0
    exact ⟨⟨_, rfl⟩, by simpa using HFI.out⟩)
set_option maxRecDepth 100000 in
set_option maxHeartbeats 8000000 in
theorem read_seq (w0 : World) (N : Nat) (ih : RdIh w0 N) (s : List Pc) (a b : RE) (q : Nat) (f : Bool) (ta tb : FT) (hs : a.size ≤ N) (hs2 : b.size ≤ N) (hp : a.prt = true) (hp2 : b.prt = true) (w : World) (h : Nd w0 w (.mk 3 s [a, b]) (.two q f ta tb)) (hn : (FT.two q f ta tb).blks.Nodup) (hb : Below w0.heap.size w0 w) (en : Bool) (r : Int) :
    Calls Tryz.prog 42 #[.pointer (some ⟨q, 0, none⟩), .bool en, .int .i32 r] w (RPost w0 w (.mk 3 s [a, b]) (.two q f ta tb) en r) := by
  obtain ⟨ea, eb, he, h2, h3, h4⟩ := h
  obtain ⟨rfl, rfl⟩ : a = ea ∧ b = eb := by simpa [RE.parts] using he
  obtain ⟨o, c, g, pc, hx⟩ := h2.nx (by simp)
  have hnn := List.nodup_append.1 (List.nodup_cons.1 hn).2
  have h30 := h3.low
  have hc1 := fun (W : World) (hW : Below w.heap.size w W) => ih a ta hs hp W (h3.moved hW) hnn.1 (hb.trans (hW.mono hb.size)) en r
  have hc2 := fun (w3 : World) (d3 : Nd w0 w3 a (rd a ta en r)) (g3 : Ag (fun k => k ∉ ta.blks) w w3) => ih b tb hs2 hp2 w3 (two_fin (w5 := w3) (tb' := tb) he hx hn h3.all h4.all h4 d3 (rd_blks _ _ _ _) (rd_q _ _ _ _) g3).2.1 hnn.2.1 (hb.trans (g3.below hb.size fun k hk hin => by have := (h30 k hin).1; omega)) (ta.f || (en && a.emp)) r
  obtain ⟨c0, c2, c3, c4, f4⟩ := hx.cells
  have g0 := hx.part (i := 0) rfl
  have g1 := hx.part (i := 1) rfl
  obtain ⟨t4, t3⟩ := h3.fin
  have HC1 := Lib.hid hc1
  have HC2 := Lib.hid hc2
  have HS := Lib.hid fun (w3 w5 : World) (d3 : Nd w0 w3 a (rd a ta en r)) (g3 : Ag (fun k => k ∉ ta.blks) w w3) => two_fin (w3 := w3) (w5 := w5) (tb' := rd b tb (ta.f || (en && a.emp)) r) he hx hn h3.all h4.all h4 d3 (rd_blks _ _ _ _) (rd_q _ _ _ _) g3
  have HRD := Lib.hid (rd_seq s a b q f ta tb en r)
  clear hc1 hc2 h2 h3 h4 hx hn ih he hnn h30
  rw [show ([ta.q, tb.q] : List Nat).length = 2 from rfl] at c2
  obtain ⟨na, hna⟩ : ∃ na, na = (ta.f || (en && a.emp)) := ⟨_, rfl⟩
  rw [← hna] at HC2 HS HRD
  obtain ⟨xf, hxf⟩ : ∃ xf, xf = ta.f := ⟨_, rfl⟩
  obtain ⟨xe, hxe⟩ : ∃ xe, xe = a.emp := ⟨_, rfl⟩
  rw [← hxf] at t4 hna
  rw [← hxe] at t3 hna
  clear hxf hxe
  go_enter Tryz.func42, Tryz.ntmps42
  go_upto_region 8 with (fail)
  go_quiet (fail)
  go_upto_region 9 with (fail)
  go_cut [8] (fun s8 wx => s8 = .bool na ∧ Below w.heap.size w wx)
  case first =>
    cases xf <;> cases en <;> cases xe
    all_goals (
      subst hna
      go_wp2_with fail
      go_meet
      exact ⟨by simp, by first | exact Below.refl _ _ | exact below_drewN (Below.refl _ _) _⟩)
  case rest =>
    obtain ⟨rfl, hbc⟩ := hcut
    have HBC := Lib.hid hbc
    clear hna t4 t3 hbc
    go_wp2_with fail
    refine (HC1.out wc HBC.out).mono ?_
    rintro x w3 ⟨⟨y, rfl⟩, d3, g3⟩
    have g3' := (Ag.of HBC.out).trans g3
    have HC3 := Lib.hid (HC2.out w3 d3 g3')
    have HS3 := Lib.hid fun w5 => (HS.out w3 w5 d3 g3').2.2
    clear d3 g3 g3'
    go_wp2_with fail
    refine HC3.out.mono ?_
    rintro x w5 ⟨⟨y2, rfl⟩, d5, g5⟩
    obtain ⟨hx5, ha5, hfin⟩ := HS3.out w5 d5 (rd_blks _ _ _ _) (rd_q _ _ _ _) g5
    obtain ⟨-, i2, -, i4, j4⟩ := hx5.cells
    have fa := ha5.fin.1
    obtain ⟨fb, fe⟩ := d5.fin
    rw [rd_q] at fa fb fe
    have HFI := Lib.hid (hfin ((rd b tb na r).f || ((rd a ta en r).f && b.emp)))
    clear hx5 ha5 hfin d5 g5
    rw [← HRD.out] at HFI
    obtain ⟨ze, hze⟩ : ∃ z, z = b.emp := ⟨_, rfl⟩
    rw [← hze] at fe HFI
    clear hze
    cases hz : (rd a ta en r).f <;> cases hzb : (rd b tb na r).f
    all_goals (
      rw [hz] at fa HFI
      rw [hzb] at fb HFI
      clear hz hzb
      go_wp2_with fail
      go_end0
      exact ⟨⟨_, rfl⟩, by simpa using HFI.out⟩)
theorem read_all (w0 : World) : ∀ N, RdIh w0 N := by
  intro N
  induction N with
  | zero => intro e t h; have := e.size_pos; omega
  | succ N ih =>
    intro e t hsz hp w h hn hb en r
    cases e with
    | mk k s l =>
      rw [RE.size_mk] at hsz
      rcases Nf.prt_cases hp with ⟨rfl, rfl⟩ | ⟨rfl, rfl⟩ | ⟨rfl, rfl, _, h20⟩ | ⟨rfl, a, rfl, ha⟩ | ⟨hk, a, b, rfl, ha, hb2⟩
      · cases t with
        | leaf q f => exact read_idle w0 0 s q f (.inl rfl) w h en r
        | one q f a => obtain ⟨ea, he, _⟩ := h; simp [RE.parts] at he
        | two q f a b => obtain ⟨ea, eb, he, _⟩ := h; simp [RE.parts] at he
      · cases t with
        | leaf q f => exact read_idle w0 1 s q f (.inr rfl) w h en r
        | one q f a => obtain ⟨ea, he, _⟩ := h; simp [RE.parts] at he
        | two q f a b => obtain ⟨ea, eb, he, _⟩ := h; simp [RE.parts] at he
      · cases t with
        | leaf q f => exact read_set w0 s q f (by omega) w h hb en r
        | one q f a => obtain ⟨ea, he, _⟩ := h; simp [RE.parts] at he
        | two q f a b => obtain ⟨ea, eb, he, _⟩ := h; simp [RE.parts] at he
      · rw [RE.sizes_cons, RE.sizes_nil] at hsz
        cases t with
        | leaf q f => obtain ⟨he, _⟩ := h; simp [RE.parts] at he
        | one q f ta => exact read_star w0 N ih s a q f ta (by omega) ha w h hn hb en r
        | two q f a b => obtain ⟨ea, eb, he, _⟩ := h; simp [RE.parts] at he
      · rw [RE.sizes_cons, RE.sizes_cons, RE.sizes_nil] at hsz
        cases t with
        | leaf q f => obtain ⟨he, _⟩ := h; simp [RE.parts] at he
        | one q f ta => obtain ⟨ea, he, _⟩ := h; simp [RE.parts] at he
        | two q f ta tb =>
          rcases hk with rfl | rfl
          · exact read_seq w0 N ih s a b q f ta tb (by omega) (by omega) ha hb2 w h hn hb en r
          · exact read_alt w0 N ih s a b q f ta tb (by omega) (by omega) ha hb2 w h hn hb en r
end Go.Proofs.YtmgfpcblbbpahaaGreat
