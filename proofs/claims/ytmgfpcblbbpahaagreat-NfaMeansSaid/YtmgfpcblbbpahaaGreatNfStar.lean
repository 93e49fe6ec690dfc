/- nfa.part: a star. -/
import Derived.Test.YtmgfpcblbbpahaaGreatNfPart
set_option linter.unusedVariables false
set_option linter.unusedSimpArgs false
namespace Go.Proofs.YtmgfpcblbbpahaaGreat
open Go.RowKit Ru

structure Tr (fb qn : Nat) (w : World) (vs : List Value) (w' : World) (vs' : List Value) : Prop where
  ag : Ag (fun j => ¬ inF vs fb j ∧ j ≠ qn) w w'
  new : ∀ j, inF vs' fb j → inF vs fb j ∨ w.heap.size ≤ j
section
variable {fb qn pb : Nat} {w0 w w1 w2 : World} {vs vs1 vs2 : List Value} {F : List (List Int)} {n : Int}
theorem Tr.trans (h : Tr fb qn w vs w1 vs1) (k : Tr fb qn w1 vs1 w2 vs2) : Tr fb qn w vs w2 vs2 := by
  have hs := h.ag.size
  refine ⟨⟨k.ag.os.trans h.ag.os, k.ag.tape.trans h.ag.tape, k.ag.output.trans h.ag.output, Nat.le_trans hs k.ag.size, fun j hj hS => (k.ag.block j (by omega) ⟨fun hj2 => ?_, hS.2⟩).trans (h.ag.block j hj hS)⟩, fun j hj => ?_⟩
  · rcases h.new j hj2 with h4 | h4
    · exact hS.1 h4
    · omega
  · rcases k.new j hj with h4 | h4
    · exact h.new j h4
    · exact .inr (by omega)
theorem Tr.old (h : Below w.heap.size w w1) : Tr fb qn w vs w1 vs := ⟨.of h, fun j hj => .inl hj⟩
theorem Tr.set (h : Tr fb qn w vs w1 vs1) {b : Nat} (hb : w.heap.size ≤ b) (i : Nat) (x : Value) : Tr fb qn w vs (w1.setCell ⟨b, i, none⟩ x) vs1 := by
  refine ⟨⟨h.ag.os, h.ag.tape, h.ag.output, by have := h.ag.size; simpa [World.setCell] using this, fun j hj hS => ?_⟩, h.new⟩
  rw [Below.heap_setCell _ _ _ _ (show j ≠ (⟨b, i, none⟩ : Addr).block by show j ≠ b; omega)]
  exact h.ag.block j hj hS
theorem Tr.link {B : Nat} {l tq : List Int} {k : Nat} (h : LinkAt w B fb vs F l tq k w1) : ∃ vs', Fol w1 B fb vs' (linkF F (l.take k) tq) ∧ Tr fb qn w vs w1 vs' := by
  obtain ⟨⟨vs', h1, h2⟩, h3⟩ := h
  exact ⟨vs', h1, h3.sub (fun k _ hk => hk.1), h2⟩
def PRw (w : World) (lo hi fb : Nat) (vs : List Value) (v : Value) (l : List Int) : Prop := hi ≤ w.heap.size ∧ KP (fun k => lo ≤ k ∧ k < hi ∧ ¬ inF vs fb k) w (fun x => Row x v l.length (ints1 l))
variable {lo hi : Nat} {v : Value} {l : List Int}
theorem PRw.row (h : PRw w lo hi fb vs v l) : Row w v l.length (ints1 l) := h.2.here
theorem PRw.tr (h : PRw w lo hi fb vs v l) (k : Tr fb qn w vs w1 vs1) (hq : qn < lo) : PRw w1 lo hi fb vs1 v l := by
  refine ⟨Nat.le_trans h.1 k.ag.size, (h.2.to (k.ag.sub fun j _ hj => ⟨hj.2.2, by omega⟩)).sub fun j _ hj => ⟨hj.1, hj.2.1, fun hj2 => ?_⟩⟩
  have := h.1
  rcases k.new j hj2 with h4 | h4
  · exact hj.2.2 h4
  · omega
theorem PRw.set (h : PRw w lo hi fb vs v l) {b : Nat} (hb : b < lo ∨ hi ≤ b) (i : Nat) (x : Value) : PRw (w.setCell ⟨b, i, none⟩ x) lo hi fb vs v l :=
  ⟨by have := h.1; simpa [World.setCell] using this, h.2.to ((Ag.refl _ w).setCell (fun hn => by have h1 : lo ≤ b := hn.1; have h2 : b < hi := hn.2.1; omega) x)⟩
theorem PRw.wide (h : PRw w lo hi fb vs v l) {lo' hi' : Nat} (hl : lo' ≤ lo) (hh : hi ≤ hi') (hs : hi' ≤ w.heap.size) : PRw w lo' hi' fb vs v l :=
  ⟨hs, h.2.sub fun k _ hk => ⟨by omega, by omega, hk.2.2⟩⟩
theorem PRw.own {B base : Nat} (h : w.ownsRow base 3 1 v l.length (ints1 l)) (hf : Fol w1 B fb vs F) (hb : w1.heap.size ≤ base) (hlo : lo ≤ base) (hs : hi = w.heap.size) : PRw w lo hi fb vs v l := by
  refine ⟨by omega, fun x hx => Row.owned (owns_ag h hx fun j hj => ?_)⟩
  have := h.lt j hj
  exact ⟨by omega, by omega, fun hin => by have := (inF_lt hf hin).1; omega⟩
theorem PPost.rows {r : (Bool × List Int × List Int) × Int × List (List Int)} {fv lv : Value} (h : PPost w0 w fb qn pb vs r fv lv w1) :
    ∃ vs', PS w0 w1 fb qn pb vs' r.2.2 r.2.1 ∧ Tr fb qn w vs w1 vs' ∧ PRw w1 w.heap.size w1.heap.size fb vs' fv r.1.2.1 ∧ PRw w1 w.heap.size w1.heap.size fb vs' lv r.1.2.2 := by
  obtain ⟨⟨vs', h1, h2, h3⟩, h4⟩ := h
  exact ⟨vs', h1, ⟨h4, h2⟩, ⟨Nat.le_refl _, h3.mono fun _ h => h.1⟩, ⟨Nat.le_refl _, h3.mono fun _ h => h.2⟩⟩
theorem PPost.of {r : (Bool × List Int × List Int) × Int × List (List Int)} {fv lv : Value} (h1 : PS w0 w1 fb qn pb vs1 r.2.2 r.2.1) (h2 : Tr fb qn w vs w1 vs1) (h3 : PRw w1 w.heap.size w1.heap.size fb vs1 fv r.1.2.1) (h4 : PRw w1 w.heap.size w1.heap.size fb vs1 lv r.1.2.2) : PPost w0 w fb qn pb vs r fv lv w1 :=
  ⟨⟨vs1, h1, h2.new, fun x hx => ⟨h3.2 x hx, h4.2 x hx⟩⟩, h2.ag⟩
theorem PS.set (h : PS w0 w fb qn pb vs F n) {b : Nat} (hq : b ≠ qn) (hp : b ≠ pb) (hf : ¬ inF vs fb b) (hB : w0.heap.size ≤ b) (i : Nat) (x : Value) : PS w0 (w.setCell ⟨b, i, none⟩ x) fb qn pb vs F n := by
  have hq2 : qn ≠ (⟨b, i, none⟩ : Addr).block := fun e => hq e.symm
  have hp2 : pb ≠ (⟨b, i, none⟩ : Addr).block := fun e => hp e.symm
  refine ⟨h.fol.ag ((Ag.refl _ w).setCell hf x), by rw [Below.heap_setCell _ _ _ _ hq2]; exact h.box, by have := h.pl; simpa [World.setCell] using this, ?_, h.far, h.low, h.bel.setCell (p := ⟨b, i, none⟩) hB x⟩
  rw [← h.pc]
  simp only [World.cell?]
  rw [Below.heap_setCell _ _ _ _ hp2]
theorem PS.linked {l tq : List Int} (h : PS w0 w fb qn pb vs F n) (hl : LinkAt w w0.heap.size fb vs F l tq l.length w1) : ∃ vs', PS w0 w1 fb qn pb vs' (linkF F l tq) n ∧ Tr fb qn w vs w1 vs' := by
  obtain ⟨vs', h1, h2⟩ := Tr.link (qn := qn) hl
  rw [List.take_length] at h1
  have hag := hl.ag
  have hql : qn < w.heap.size := (Array.getElem?_eq_some_iff.1 h.box).1
  refine ⟨vs', ⟨h1, by rw [hag.block qn hql h.far.2.1]; exact h.box, Nat.lt_of_lt_of_le h.pl hag.size, ?_, ⟨fun hin => ?_, fun hin => ?_, h.far.2.2⟩, h.low, h.agb h2.ag⟩, h2⟩
  · rw [linkF_len, ← h.pc]
    simp only [World.cell?]
    rw [hag.block pb h.pl h.far.1]
  · rcases h2.new pb hin with h4 | h4
    · exact h.far.1 h4
    · have := h.pl; omega
  · rcases h2.new qn hin with h4 | h4
    · exact h.far.2.1 h4
    · omega
end
end Go.Proofs.YtmgfpcblbbpahaaGreat

namespace Go.Proofs.YtmgfpcblbbpahaaGreat
open Go.RowKit Ru

theorem sq60 {c : Nat} (h : c ≤ 60) : c * c ≤ 3600 := Nat.mul_le_mul h h

set_option maxRecDepth 100000 in
set_option maxHeartbeats 4000000 in
theorem part_star (w0 : World) (fb qn pb N : Nat) (ih : PIh w0 fb qn pb N) (s : List Pc) (a : RE) (sv lv : Value) (hsz : a.size ≤ N) (hp : a.prt = true) (h60 : a.size + 1 ≤ 60) (hre : ReIs w0 (.mk 5 s [a]) sv lv)
    (w : World) (vs : List Value) (F : List (List Int)) (n : Int) (L : Nat) (h : PS w0 w fb qn pb vs F n) (hn : 0 ≤ n) (hnF : n + (Nf.sts a).length ≤ (F.length : Int)) (hL : ∀ r ∈ F, r.length ≤ L) (hLs : L + (a.size + 1) * 3600 ≤ 3999999) :
    Calls Tryz.prog 30 #[.pointer (some ⟨pb, 0, none⟩), .agg #[.int .i64 5, sv, lv], posV qn] w fun x w' => ∃ fv lv', x = .returned (.agg #[.bool true, fv, lv']) ∧ PPost w0 w fb qn pb vs (Nf.pt (.mk 5 s [a]) n F) fv lv' w' := by
  have hform : ∃ o c, sv = .slice o s.length c := hre.form.1
  obtain ⟨o1, q1, rfl⟩ := hform
  have hpart : ∃ b off cap s' l', lv = .slice (some ⟨b, off, none⟩) 1 cap ∧ b < w0.heap.size ∧ w0.cell? ⟨b, off + 0 * 3, none⟩ = some (.int .i64 a.kind) ∧ w0.cell? ⟨b, off + 0 * 3 + 1, none⟩ = some s' ∧ w0.cell? ⟨b, off + 0 * 3 + 2, none⟩ = some l' ∧ ReIs w0 a s' l' := hre.part (i := 0) (p := a) rfl
  obtain ⟨b, off, cap, s', l', rfl, hb, k0, k1, k2, hra⟩ := hpart
  obtain ⟨⟨o3, q3, rfl⟩, ⟨o4, q4, rfl⟩⟩ := hra.form
  have hok := Nf.pt_ok a.size a (Nat.le_refl _) hp n F hn
  rw [Nf.pt_star]
  obtain ⟨x, hx⟩ : ∃ x, Nf.pt a n F = x := ⟨_, rfl⟩
  have hihx := ih a _ _ hsz hp (by omega) hra
  rw [hx] at hok ⊢
  have hcnt := Nat.le_trans (Nf.sts_size a.size a (Nat.le_refl _) hp) (show a.size ≤ 60 by omega)
  have hrowx := hok.row L hL
  have hsq := Nat.mul_le_mul_left a.size (sq60 hcnt)
  obtain ⟨W, hW⟩ : ∃ W, W = (w.alloc (.cells #[.int .i64 5, .slice o1 s.length q1, .slice (some ⟨b, off, none⟩) 1 cap] 41)).alloc (.cells #[.bool false, .slice none 0 0, .slice none 0 0] 62) := ⟨_, rfl⟩
  have hbW : Below w.heap.size w W := by rw [hW]; exact bel_new (bel_new (Below.refl _ _) _) _
  have hsW : W.heap.size = w.heap.size + 2 := by rw [hW]; simp
  have hih := hihx W vs F n L (h.moved hbW) hn hnF hL (by omega)
  rw [hx, hW] at hih
  have hbw := Nat.lt_of_lt_of_le hb h.bel.size
  have c0 := (h.bel.cell (p := ⟨b, off, none⟩) hb).trans (by simpa using k0)
  have c1 := (h.bel.cell (p := ⟨b, off + 1, none⟩) hb).trans (by simpa using k1)
  have c2 := (h.bel.cell (p := ⟨b, off + 2, none⟩) hb).trans (by simpa using k2)
  have hsl : ([a] : List RE).length = 1 := rfl
  have H := Lib.hid h
  have HW := Lib.hid hW
  have HBW := Lib.hid hbW
  have HOK := Lib.hid hok
  have HRX := Lib.hid hrowx
  have HIH := Lib.hid hih
  have HX := Lib.hid hx
  clear h hW hbW hok hrowx hih hx hihx hre hra k0 k1 k2 hL
  go_enter Tryz.func30, Tryz.ntmps30
  go_wp2_with (first
    | (go_at_call 30; refine HIH.out.mono ?_; rintro e w1 ⟨fv, lv', rfl, hpost⟩; obtain ⟨vs1, hps1, htr1, hfr, hlr⟩ := hpost.rows; obtain ⟨of, cf, rfl⟩ := hfr.row.formI; obtain ⟨ol, cl, rfl⟩ := hlr.row.formI))
  rw [← HW.out] at htr1 hfr hlr
  have hql : qn < w.heap.size := (Array.getElem?_eq_some_iff.1 H.out.box).1
  have hqW : qn < W.heap.size := by omega
  obtain ⟨W2, hW2⟩ : ∃ W2, W2 = w1.alloc (.cells #[.bool x.1.1, .slice of x.1.2.1.length cf, .slice ol x.1.2.2.length cl] 62) := ⟨_, rfl⟩
  have hb2 : Below w1.heap.size w1 W2 := by rw [hW2]; exact bel_new (Below.refl _ _) _
  have hps2 := hps1.moved hb2
  have hfr2 := hfr.tr (Tr.old (qn := qn) hb2) hqW
  have hlr2 := hlr.tr (Tr.old (qn := qn) hb2) hqW
  have hok := HOK.out
  have hn1 := hok.nxt
  have hlen := hok.len
  have hlk := link_any w0.heap.size fb pb vs1 x.2.2 W2 hps2.fol hps2.pl hps2.pc hps2.far.1 x.1.2.2 x.1.2.1 ol of cl cf (hlr2.2.sub fun k _ hk => hk.2.2) (hfr2.2.sub fun k _ hk => hk.2.2)
    (fun z hz => by have := hok.lst z hz; rw [hlen]; omega) (by have := hok.ll; omega) (by have := hok.fl; omega)
    (fun k hk r hr => by
      have h1 := linkF_row x.1.2.1 _ (x.1.2.2.take k) x.2.2 HRX.out r hr
      have h2 : (x.1.2.2.take k).length * x.1.2.1.length ≤ 60 * 60 := Nat.mul_le_mul (by rw [List.length_take]; have := hok.ll; omega) (by have := hok.fl; omega)
      rw [Nat.add_mul] at hLs
      omega)
  rw [hW2] at hlk
  refine hlk.mono ?_
  rintro e w3 ⟨⟨xx, rfl⟩, hlink⟩
  rw [← hW2] at hlink
  obtain ⟨vs2, hps3, htr3⟩ := hps2.linked hlink
  have hw1s : w1.heap.size < W2.heap.size := by rw [hW2]; simp
  have hWs1 : W.heap.size ≤ w1.heap.size := htr1.ag.size
  have h8 : W2.heap[w1.heap.size]? = some (.cells #[.bool x.1.1, .slice of x.1.2.1.length cf, .slice ol x.1.2.2.length cl] 62 (0, 0)) := by rw [hW2]; exact World.alloc_heap_new w1 _
  have h83 : w3.heap[w1.heap.size]? = some (.cells #[.bool x.1.1, .slice of x.1.2.1.length cf, .slice ol x.1.2.2.length cl] 62 (0, 0)) := by
    rw [htr3.ag.block _ hw1s ⟨fun hin => by have := (inF_lt hps1.fol hin).1; omega, by omega⟩]; exact h8
  have htr : Tr fb qn W vs w3 vs2 := (htr1.trans (Tr.old hb2)).trans htr3
  have h6 : W.heap[w.heap.size + 1]? = some (.cells #[.bool false, .slice none 0 0, .slice none 0 0] 62 (0, 0)) := by
    rw [HW.out]
    have := World.alloc_heap_new (w.alloc (.cells #[.int .i64 5, .slice o1 s.length q1, .slice (some ⟨b, off, none⟩) 1 cap] 41)) (.cells #[.bool false, .slice none 0 0, .slice none 0 0] 62)
    rwa [World.size_alloc] at this
  have h63 : w3.heap[w.heap.size + 1]? = some (.cells #[.bool false, .slice none 0 0, .slice none 0 0] 62 (0, 0)) := by
    rw [htr.ag.block _ (by omega) ⟨fun hin => by have := (inF_lt H.out.fol hin).1; omega, by omega⟩]; exact h6
  obtain ⟨d0, d1, d2⟩ := part_cells h83
  obtain ⟨e0, e1, e2⟩ := part_cells h63
  obtain ⟨z0, z1, z2⟩ := part_froz h63
  have hfr3 := hfr2.tr htr3 hqW
  have hlr3 := hlr2.tr htr3 hqW
  have HF := Lib.hid (And.intro hps3 (And.intro htr (And.intro hfr3 (And.intro hlr3 h63))))
  have hs3 : W.heap.size ≤ w3.heap.size := htr.ag.size
  have hs13 : w1.heap.size ≤ w3.heap.size := by have := htr3.ag.size; omega
  clear hps3 htr hfr3 hlr3 h63 h6 h83 h8 hlink htr3 hlk hps2 hfr2 hlr2 hb2 hps1 htr1 hfr hlr hpost hok hn1 hlen
  go_wp2_with fail
  have hfin := set3_at HF.out.2.2.2.2 (.bool true) (.slice of x.1.2.1.length cf) (.slice ol x.1.2.2.length cl)
  obtain ⟨f0, f1, f2⟩ := part_cells hfin
  simp [bodyPost, results, Tryz.results30, go_sem, f0, f1, f2]
  obtain ⟨hps3, htr, hfr3, hlr3, h63⟩ := HF.out
  have hnin : ¬ inF vs2 fb (w.heap.size + 1) := fun hin => by
    rcases htr.new _ hin with h4 | h4
    · have := (inF_lt H.out.fol h4).1; omega
    · omega
  have hlow := H.out.low
  have hpl := H.out.pl
  have hbs := H.out.bel.size
  refine ⟨_, _, ⟨rfl, rfl⟩, PPost.of (vs1 := vs2) (((hps3.set (by omega) (by omega) hnin (by omega) _ _).set (by omega) (by omega) hnin (by omega) _ _).set (by omega) (by omega) hnin (by omega) _ _) ?_ ?_ ?_⟩
  · exact (((((Tr.old HBW.out).trans htr).set (by omega) _ _).set (by omega) _ _).set (by omega) _ _)
  · exact (((hfr3.set (.inl (by omega)) _ _).set (.inl (by omega)) _ _).set (.inl (by omega)) _ _).wide (by omega) (by simp [World.setCell]; omega) (Nat.le_refl _)
  · exact (((hlr3.set (.inl (by omega)) _ _).set (.inl (by omega)) _ _).set (.inl (by omega)) _ _).wide (by omega) (by simp [World.setCell]; omega) (Nat.le_refl _)
end Go.Proofs.YtmgfpcblbbpahaaGreat
