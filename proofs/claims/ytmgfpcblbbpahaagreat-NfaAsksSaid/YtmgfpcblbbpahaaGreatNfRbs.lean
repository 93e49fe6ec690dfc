/- goboref6.Build: what it holds while it goes. -/
import Derived.Test.YtmgfpcblbbpahaaGreatNfRal
import Derived.Test.YtmgfpcblbbpahaaGreatNfRsq
set_option linter.unusedVariables false
set_option linter.unusedSimpArgs false
namespace Go.Proofs.YtmgfpcblbbpahaaGreat
open Go.RowKit Ru Rn Rn.Ru

theorem node_all (w0 : World) (pb : Nat) (v2 v5 : Value) : ∀ N, NIh w0 pb v2 v5 N := by
  intro N
  induction N with
  | zero => intro e sv lv h; have := e.size_pos; omega
  | succ N ih =>
    intro e sv lv h hp hre w T vS vO vL vF ss fs S O L F q hrn hF h0 hS
    cases e with
    | mk k s l =>
      rw [RE.size_mk] at h hS
      have hsv : ∃ o a c, sv = .slice o a c := by obtain ⟨⟨o, c, rfl⟩, _⟩ := hre.form; exact ⟨_, _, _, rfl⟩
      have hlv : ∃ o a c, lv = .slice o a c := by obtain ⟨_, ⟨o, c, rfl⟩⟩ := hre.form; exact ⟨_, _, _, rfl⟩
      rcases Nf.prt_cases hp with ⟨rfl, rfl⟩ | ⟨rfl, rfl⟩ | ⟨rfl, rfl, _⟩ | ⟨rfl, a, rfl, ha⟩ | ⟨hk, a, b, rfl, ha, hb⟩
      · exact node_leaf w0 pb v2 v5 0 s sv lv (.inl rfl) w T vS vO vL vF ss fs S O L F q hrn hsv hlv
      · exact node_leaf w0 pb v2 v5 1 s sv lv (.inr rfl) w T vS vO vL vF ss fs S O L F q hrn hsv hlv
      · have e1 : (Nf.nd (.mk 2 s []) F).1.1 = false := by rw [Nf.nd_nil]; simp
        rw [e1]
        exact node_set w0 pb v2 v5 s sv lv w T vS vO vL vF ss fs S O L F q hrn (by omega) hre.set hlv
      · rw [RE.sizes_cons, RE.sizes_nil] at h hS
        have e1 : (Nf.nd (.mk 5 s [a]) F).1.1 = true := by rw [Nf.nd_star]
        rw [e1]
        exact node_star w0 pb v2 v5 N ih s a sv lv (by omega) ha hre w T vS vO vL vF ss fs S O L F q hrn hF h0 (by omega)
      · rw [RE.sizes_cons, RE.sizes_cons, RE.sizes_nil] at h hS
        rcases hk with rfl | rfl
        · exact node_seq w0 pb v2 v5 N ih s a b sv lv (by omega) (by omega) ha hb hre w T vS vO vL vF ss fs S O L F q hrn hF h0 (by omega)
        · exact node_alt w0 pb v2 v5 N ih s a b sv lv (by omega) (by omega) ha hb hre w T vS vO vL vF ss fs S O L F q hrn hF h0 (by omega)
theorem node_any {w0 w : World} {pb : Nat} {T : Nat → Prop} {v2 v5 vS vO vL vF sv lv : Value} {ss fs : List Value} {S : List (List Pc)} {O : List Int} {L : List Bool} {F : List (List Int)} (e : RE) (hp : e.prt = true) (hre : ReIs w0 e sv lv) (q : Int)
    (h : RN w0 w pb T vS vO v2 vL vF v5 ss fs S O L F) (hF : ∀ r ∈ F, DnOk F.length r) (h0 : 0 < F.length) (hS : S.length + e.size ≤ 1000) :
    Calls Tryz.prog 45 #[.pointer (some ⟨pb, 0, none⟩), reV e sv lv, .int .i64 q] w fun x w' => ∃ fv lv', x = .returned (.agg #[.bool (Nf.nd e F).1.1, fv, lv']) ∧ NPost w0 pb v2 v5 e S O L F q T w fv lv' w' :=
  node_all w0 pb v2 v5 e.size e sv lv (Nat.le_refl _) hp hre w T vS vO vL vF ss fs S O L F q h hF h0 hS
end Go.Proofs.YtmgfpcblbbpahaaGreat

namespace Go.Proofs.YtmgfpcblbbpahaaGreat
open Go.RowKit Ru Rn Rn.Ru

namespace Nf
structure DS where
  F : List (List Int)
  Fi : List Int
  O : List Int
  L : List Bool
  Em : List Bool
def setL (L : List Bool) (a : List Int) : List Bool := a.foldl (fun L s => L.set s.toNat true) L
def dst (x : DS) (e : RE) : DS :=
  ⟨(nd e x.F).2, addF x.Fi (nd e x.F).1.2.1, x.O ++ List.replicate (sts e).length (x.Em.length : Int), setL (x.L ++ List.replicate (sts e).length false) (nd e x.F).1.2.2, x.Em ++ [(nd e x.F).1.1]⟩
def d0 : DS := ⟨[[]], [], [-1], [false], []⟩
def dl (l : List RE) (x : DS) : DS := l.foldl dst x
theorem dl_next (l : List RE) (x : DS) (k : Nat) (e : RE) (h : l[k]? = some e) : dl (l.take (k + 1)) x = dst (dl (l.take k) x) e := by
  unfold dl
  rw [List.take_add_one, h, List.foldl_append]
  rfl
theorem setL_next (L : List Bool) (a : List Int) (k : Nat) (h : k < a.length) : setL L (a.take (k + 1)) = (setL L (a.take k)).set (a.getD k 0).toNat true := by
  have e : a.getD k 0 = a[k] := by simp [List.getD, List.getElem?_eq_getElem h]
  rw [e]
  unfold setL
  rw [List.take_add_one, List.getElem?_eq_getElem h, List.foldl_append]
  rfl
theorem setL_len : ∀ (a : List Int) (L : List Bool), (setL L a).length = L.length
  | [], L => rfl
  | x :: a, L => by
    have := setL_len a (L.set x.toNat true)
    rw [List.length_set] at this
    exact this
theorem setL_get : ∀ (a : List Int) (L : List Bool) (p : Nat), (setL L a).getD p false = true ↔ L.getD p false = true ∨ ((∃ s, s ∈ a ∧ s.toNat = p) ∧ p < L.length)
  | [], L, p => by simp [setL]
  | x :: a, L, p => by
    have e : setL L (x :: a) = setL (L.set x.toNat true) a := rfl
    rw [e, setL_get a, List.length_set]
    have e2 : (L.set x.toNat true).getD p false = if x.toNat = p ∧ p < L.length then true else L.getD p false := by
      rw [List.getD_eq_getElem?_getD, List.getElem?_set, List.getD_eq_getElem?_getD]
      by_cases e : x.toNat = p
      · subst e
        by_cases h : x.toNat < L.length
        · simp [h]
        · rw [if_pos rfl, if_neg h, if_neg (fun h2 => h h2.2), List.getElem?_eq_none (by omega)]
      · rw [if_neg e, if_neg (fun h2 => e h2.1)]
    rw [e2]
    by_cases h : x.toNat = p ∧ p < L.length
    · rw [if_pos h]
      constructor
      · rintro (_ | ⟨⟨t, h1, h2⟩, h3⟩)
        · exact .inr ⟨⟨x, List.mem_cons_self .., h.1⟩, h.2⟩
        · exact .inr ⟨⟨t, List.mem_cons_of_mem _ h1, h2⟩, h3⟩
      · intro _; exact .inl rfl
    · rw [if_neg h]
      constructor
      · rintro (h1 | ⟨⟨t, h1, h2⟩, h3⟩)
        · exact .inl h1
        · exact .inr ⟨⟨t, List.mem_cons_of_mem _ h1, h2⟩, h3⟩
      · rintro (h1 | ⟨⟨t, h1, h2⟩, h3⟩)
        · exact .inl h1
        · rcases List.mem_cons.1 h1 with rfl | h4
          · exact absurd ⟨h2, h3⟩ h
          · exact .inr ⟨⟨t, h4, h2⟩, h3⟩
theorem pt_low : ∀ (N : Nat) (e : RE), e.size ≤ N → e.prt = true → ∀ (n : Int) (F : List (List Int)), 0 ≤ n → ∀ (i : Nat), (i : Int) < n → ∀ x, x ∈ (pt e n F).2.2.getD i [] ↔ x ∈ F.getD i [] := by
  intro N
  induction N with
  | zero => intro e h; have := e.size_pos; omega
  | succ N ih =>
    intro e h hp n F hn i hi x
    cases e with
    | mk k s l =>
      rw [RE.size_mk] at h
      rcases prt_cases hp with ⟨rfl, rfl⟩ | ⟨rfl, rfl⟩ | ⟨rfl, rfl, _⟩ | ⟨rfl, a, rfl, ha⟩ | ⟨hk, a, b, rfl, ha, hb⟩
      · rw [pt_nil]; simp
      · rw [pt_nil]; simp
      · rw [pt_nil]; simp
      · rw [RE.sizes_cons, RE.sizes_nil] at h
        rw [pt_star]
        have h1 := ih a (by omega) ha n F hn i hi x
        have h2 := pt_ok a.size a (Nat.le_refl _) ha n F hn
        show x ∈ (linkF (pt a n F).2.2 (pt a n F).1.2.2 (pt a n F).1.2.1).getD i [] ↔ _
        rw [mem_linkF, h1]
        exact ⟨fun h3 => h3.elim id fun ⟨⟨t, h4, h5⟩, _⟩ => absurd (h2.lst t h4).1 (by omega), .inl⟩
      · rw [RE.sizes_cons, RE.sizes_cons, RE.sizes_nil] at h
        obtain ⟨u, hu⟩ : ∃ u, pt a n F = u := ⟨_, rfl⟩
        have p1 := pt_ok a.size a (Nat.le_refl _) ha n F hn
        have h1 := ih a (by omega) ha n F hn i hi x
        rw [hu] at p1 h1
        have hun : n ≤ u.2.1 := by rw [p1.nxt]; omega
        obtain ⟨v, hv⟩ : ∃ v, pt b u.2.1 u.2.2 = v := ⟨_, rfl⟩
        have h2 := ih b (by omega) hb u.2.1 u.2.2 (by omega) i (by omega) x
        rw [hv] at h2
        rcases hk with rfl | rfl
        · rw [pt_seq s a b n F u v hu hv]
          show x ∈ (linkF v.2.2 u.1.2.2 v.1.2.1).getD i [] ↔ _
          rw [mem_linkF, h2, h1]
          exact ⟨fun h3 => h3.elim id fun ⟨⟨t, h4, h5⟩, _⟩ => absurd (p1.lst t h4).1 (by omega), .inl⟩
        · rw [pt_alt s a b n F u v hu hv]
          show x ∈ v.2.2.getD i [] ↔ _
          rw [h2, h1]
structure DOk (N k m : Nat) (x : DS) (y : BS) : Prop where
  lenF : x.F.length = 1 + m
  lenO : x.O.length = 1 + m
  lenL : x.L.length = 1 + m
  lenE : x.Em.length = k
  rok : ∀ q ∈ x.F, DnOk x.F.length q
  fok : DnOk x.F.length x.Fi
  r1 : ∀ i, 1 ≤ i → ∀ z, z ∈ x.F.getD i [] ↔ z ∈ y.F.getD i []
  r0 : ∀ z, z ∈ x.Fi ↔ z ∈ y.F.getD 0 []
  e0 : ∀ z, z ∈ y.E.getD 0 [] ↔ ∃ j : Nat, j < x.Em.length ∧ x.Em.getD j false = true ∧ z = (j : Int)
  e1 : ∀ p, 1 ≤ p → ∀ z, z ∈ y.E.getD p [] ↔ x.L.getD p false = true ∧ z = x.O.getD p 0
  fit : ∀ p, 0 < p → p < 1 + m → 0 ≤ x.O.getD p 0 ∧ x.O.getD p 0 < (x.Em.length : Int)
theorem getD_rep {α : Type} (n i : Nat) (a : α) : (List.replicate n a).getD i a = a := by
  rw [List.getD_eq_getElem?_getD, List.getElem?_replicate]
  split <;> rfl
theorem d0_ok (N : Nat) : DOk N 0 0 d0 (b0 N) := by
  refine ⟨rfl, rfl, rfl, rfl, fun q hq => ?_, DnOk.nil _, fun i hi z => ?_, fun z => ?_, fun z => ?_, fun p hp z => ?_, fun p h1 h2 => by omega⟩
  · rw [List.mem_singleton.1 hq]; exact DnOk.nil _
  · show z ∈ ([[]] : List (List Int)).getD i [] ↔ z ∈ (List.replicate N []).getD i []
    rw [getD_rep]
    obtain ⟨j, rfl⟩ : ∃ j, i = j + 1 := ⟨i - 1, by omega⟩
    simp
  · show z ∈ [] ↔ z ∈ (List.replicate N []).getD 0 []
    rw [getD_rep]
  · show z ∈ (List.replicate N []).getD 0 [] ↔ _
    rw [getD_rep]
    simp [d0]
  · show z ∈ (List.replicate N []).getD p [] ↔ ([false] : List Bool).getD p false = true ∧ _
    rw [getD_rep]
    obtain ⟨j, rfl⟩ : ∃ j, p = j + 1 := ⟨p - 1, by omega⟩
    simp
theorem getD_app {α : Type} (a b : List α) (i : Nat) (d : α) : (a ++ b).getD i d = if i < a.length then a.getD i d else b.getD (i - a.length) d := by
  rw [List.getD_eq_getElem?_getD, List.getD_eq_getElem?_getD, List.getD_eq_getElem?_getD]
  split
  · rw [List.getElem?_append_left (by assumption)]
  · rw [List.getElem?_append_right (by omega)]
theorem dst_ok {N k m : Nat} {x : DS} {y : BS} (h : DOk N k m x y) (hy : BOk N k m y) (e : RE) (hp : e.prt = true) (hm : m + (sts e).length + 1 ≤ N) : DOk N (k + 1) (m + (sts e).length) (dst x e) (bst y e) := by
  have hyn : y.n = (x.F.length : Int) := by rw [hy.n, h.lenF]; omega
  have hnd := nd_ok 1 e.size e (Nat.le_refl _) hp x.F y.F h.rok h.r1 (by rw [h.lenF, hy.lf]; omega)
  have hpl := fun z => pt_low e.size e (Nat.le_refl _) hp (x.F.length : Int) y.F (by omega) 0 (by rw [h.lenF]; omega) z
  have hpk := pt_ok e.size e (Nat.le_refl _) hp (x.F.length : Int) y.F (by omega)
  have hk := hy.k
  have hle := hy.le
  have lE := h.lenE
  have lO := h.lenO
  have lL := h.lenL
  have lF := h.lenF
  unfold dst bst
  rw [hyn]
  generalize nd e x.F = r at hnd
  generalize pt e (x.F.length : Int) y.F = p at hnd hpl hpk
  have hlast : ∀ s, s ∈ r.1.2.2 → (x.F.length : Int) ≤ s ∧ s < (r.2.length : Int) := fun s hs => ⟨(hpk.lst s ((hnd.lst s).1 hs)).1, (hnd.lok.in s hs).2⟩
  have hrl := hnd.len
  have hpl2 := hpk.len
  have hyF := hy.lf
  refine ⟨by show r.2.length = _; omega, by simp [lO]; omega, by rw [setL_len]; simp [lL]; omega, by simp [lE], hnd.rok, ?_, fun i hi z => ?_, fun z => ?_, fun z => ?_, fun q hq z => ?_, fun q h1 h2 => ?_⟩
  · exact addF_ok _ _ _ (h.fok.mono (by show x.F.length ≤ r.2.length; omega)) hnd.fok.in
  · show z ∈ r.2.getD i [] ↔ z ∈ (linkF p.2.2 [0] p.1.2.1).getD i []
    rw [mem_linkF, hnd.row i hi z]
    exact ⟨.inl, fun h3 => h3.elim id fun ⟨⟨t, h4, h5⟩, _⟩ => by rw [List.mem_singleton.1 h4] at h5; simp at h5; omega⟩
  · show z ∈ addF x.Fi r.1.2.1 ↔ z ∈ (linkF p.2.2 [0] p.1.2.1).getD 0 []
    rw [mem_addF, mem_linkF, hpl z, h.r0 z, hnd.fst z]
    exact ⟨fun h3 => h3.imp id fun h4 => ⟨⟨0, List.mem_singleton_self _, rfl⟩, by omega, h4⟩, fun h3 => h3.imp id fun h4 => h4.2.2⟩
  · show z ∈ (linkF (if p.1.1 = true then linkF y.E [0] [(y.k : Int)] else y.E) p.1.2.2 [(y.k : Int)]).getD 0 [] ↔ ∃ j : Nat, j < (x.Em ++ [r.1.1]).length ∧ (x.Em ++ [r.1.1]).getD j false = true ∧ z = (j : Int)
    rw [mem_linkF]
    have hno : ¬ ((∃ s, s ∈ p.1.2.2 ∧ s.toNat = 0) ∧ 0 < (if p.1.1 = true then linkF y.E [0] [(y.k : Int)] else y.E).length ∧ z ∈ [(y.k : Int)]) := fun ⟨⟨s, h1, h2⟩, _⟩ => by have := (hpk.lst s h1).1; omega
    have hE : z ∈ (if p.1.1 = true then linkF y.E [0] [(y.k : Int)] else y.E).getD 0 [] ↔ z ∈ y.E.getD 0 [] ∨ (p.1.1 = true ∧ z = (y.k : Int)) := by
      split
      · rw [mem_linkF]
        rename_i h1
        exact ⟨fun h3 => h3.imp id fun h4 => ⟨h1, List.mem_singleton.1 h4.2.2⟩, fun h3 => h3.imp id fun h4 => ⟨⟨0, List.mem_singleton_self _, rfl⟩, by omega, List.mem_singleton.2 h4.2⟩⟩
      · rename_i h1
        exact ⟨.inl, fun h3 => h3.elim id fun h4 => absurd h4.1 h1⟩
    rw [hE, h.e0 z, hnd.emp]
    constructor
    · rintro ((⟨j, h1, h2, h3⟩ | ⟨h1, h2⟩) | h1)
      · exact ⟨j, by simp; omega, by rw [getD_app, if_pos h1]; exact h2, h3⟩
      · exact ⟨x.Em.length, by simp, by rw [getD_app, if_neg (by omega)]; simpa using h1, by rw [h2, hk, lE]⟩
      · exact absurd h1 hno
    · rintro ⟨j, h1, h2, h3⟩
      simp only [List.length_append, List.length_singleton] at h1
      rw [getD_app] at h2
      split at h2
      · rename_i h4
        exact .inl (.inl ⟨j, h4, h2, h3⟩)
      · obtain rfl : j = x.Em.length := by omega
        exact .inl (.inr ⟨by simpa using h2, by rw [h3, hk, lE]⟩)
  · show z ∈ (linkF (if p.1.1 = true then linkF y.E [0] [(y.k : Int)] else y.E) p.1.2.2 [(y.k : Int)]).getD q [] ↔ (setL (x.L ++ List.replicate (sts e).length false) r.1.2.2).getD q false = true ∧ z = (x.O ++ List.replicate (sts e).length (x.Em.length : Int)).getD q 0
    rw [mem_linkF, setL_get]
    have hlE : (if p.1.1 = true then linkF y.E [0] [(y.k : Int)] else y.E).length = N := by split; rw [linkF_len]; exact hle; exact hle
    have hE : z ∈ (if p.1.1 = true then linkF y.E [0] [(y.k : Int)] else y.E).getD q [] ↔ z ∈ y.E.getD q [] := by
      split
      · rw [mem_linkF]
        exact ⟨fun h3 => h3.elim id fun ⟨⟨t, h4, h5⟩, _⟩ => by rw [List.mem_singleton.1 h4] at h5; simp at h5; omega, .inl⟩
      · exact Iff.rfl
    rw [hE, h.e1 q hq z, hlE, getD_app, getD_app, lL, lO]
    by_cases hq1 : q < 1 + m
    · rw [if_pos hq1, if_pos hq1]
      constructor
      · rintro (h1 | ⟨⟨t, h4, h5⟩, _⟩)
        · exact ⟨.inl h1.1, h1.2⟩
        · have := (hpk.lst t h4).1; omega
      · rintro ⟨h1 | ⟨⟨t, h4, h5⟩, _⟩, h2⟩
        · exact .inl ⟨h1, h2⟩
        · have := (hlast t h4).1; omega
    · rw [if_neg hq1, if_neg hq1, getD_rep]
      have hLf : ¬ x.L.getD q false = true := by
        rw [List.getD_eq_getElem?_getD, List.getElem?_eq_none (by omega)]; simp
      constructor
      · rintro (h1 | ⟨⟨t, h4, h5⟩, h6, h7⟩)
        · exact absurd h1.1 hLf
        · have h8 := (hnd.lst t).2 h4
          have h9 := hlast t h8
          refine ⟨.inr ⟨⟨t, h8, h5⟩, by simp [lL]; omega⟩, ?_⟩
          rw [List.mem_singleton.1 h7, List.getD_eq_getElem?_getD, List.getElem?_replicate, if_pos (by omega), hk, lE]; rfl
      · rintro ⟨h1 | ⟨⟨t, h4, h5⟩, h6⟩, h2⟩
        · cases h1
        · have h9 := hlast t h4
          refine .inr ⟨⟨t, (hnd.lst t).1 h4, h5⟩, by omega, ?_⟩
          rw [List.getD_eq_getElem?_getD, List.getElem?_replicate, if_pos (by omega)] at h2
          rw [List.mem_singleton, h2, hk, lE]; rfl
  · show 0 ≤ (x.O ++ List.replicate (sts e).length (x.Em.length : Int)).getD q 0 ∧ (x.O ++ List.replicate (sts e).length (x.Em.length : Int)).getD q 0 < ((x.Em ++ [r.1.1]).length : Int)
    rw [getD_app, List.length_append, List.length_singleton]
    split
    · have := h.fit q h1 (by omega); omega
    · rw [List.getD_eq_getElem?_getD, List.getElem?_replicate, if_pos (by omega)]
      simp; omega
end Nf
end Go.Proofs.YtmgfpcblbbpahaaGreat

namespace Go.Proofs.YtmgfpcblbbpahaaGreat
open Go.RowKit Ru Rn Rn.Ru

structure RB (w0 w : World) (pb : Nat) (T : Nat → Prop) (vS vO v2 vL vF v5 : Value) (ss fs : List Value) (S : List (List Pc)) (x : Nf.DS) : Prop where
  rn : RN w0 w pb T vS vO v2 vL vF v5 ss fs S x.O x.L x.F
  fi : PRd w w0.heap.size T v2 x.Fi
  em : w.ownsRow w0.heap.size 4 1 v5 x.Em.length (x.Em.map Value.bool)
  emT : ∀ j, v5.ownBlock = some j → ¬ T j
theorem nset2 {w : World} {b : Nat} {x0 x1 x2 x3 x4 x5 : Value} {t : TypeId} (h : w.heap[b]? = some (.cells #[x0, x1, x2, x3, x4, x5] t (0, 0))) (v : Value) : (w.setCell ⟨b, 2, none⟩ v).heap[b]? = some (.cells #[x0, x1, v, x3, x4, x5] t (0, 0)) := by simp [World.setCell, Array.getElem?_modify, h]
theorem nset5 {w : World} {b : Nat} {x0 x1 x2 x3 x4 x5 : Value} {t : TypeId} (h : w.heap[b]? = some (.cells #[x0, x1, x2, x3, x4, x5] t (0, 0))) (v : Value) : (w.setCell ⟨b, 5, none⟩ v).heap[b]? = some (.cells #[x0, x1, x2, x3, x4, v] t (0, 0)) := by simp [World.setCell, Array.getElem?_modify, h]
section
variable {w0 w w' w6 : World} {pb g c m : Nat} {T T' : Nat → Prop} {vS vO v2 vL vF v5 vS' vO' vL' vF' v' : Value} {ss fs ss' fs' : List Value} {S S' : List (List Pc)} {F : List (List Int)} {Fi O l : List Int} {L Em : List Bool}
theorem RB.moved {x : Nf.DS} (h : RB w0 w pb T vS vO v2 vL vF v5 ss fs S x) (k : Below w.heap.size w w') : RB w0 w' pb T vS vO v2 vL vF v5 ss fs S x := ⟨h.rn.moved k, h.fi.moved k, owns_below h.em k, h.emT⟩
theorem RB.node {x : Nf.DS} (h : RB w0 w pb T vS vO v2 vL vF v5 ss fs S x) (hr : RN w0 w' pb T' vS' vO' v2 vL' vF' v5 ss' fs' S' O L F) (ht : RTr T w T' w') : RB w0 w' pb T' vS' vO' v2 vL' vF' v5 ss' fs' S' ⟨F, x.Fi, O, L, x.Em⟩ :=
  ⟨hr, h.fi.tr ht, owns_ag h.em ht.ag h.emT, fun j hj hT => by
    rcases ht.new j hT with h1 | h1
    · exact h.emT j hj h1
    · have := (h.em.lt j hj).2; omega⟩
theorem RB.empty {q : Bool} (h : RB w0 w pb T vS vO v2 vL vF v5 ss fs S ⟨F, Fi, O, L, Em⟩) (hown : w6.ownsRow w0.heap.size 4 1 v' (Em.length + 1) (Em.map Value.bool ++ [.bool q])) (hg : w.grownBy w6 v5.ownBlock) (hp : ∀ k, v'.ownBlock = some k → v5.ownBlock = some k ∨ w.heap.size ≤ k) :
    w6.heap[pb]? = some (.cells #[vS, vO, v2, vL, vF, v5] 49 (0, 0)) ∧ RB w0 (w6.setCell ⟨pb, 5, none⟩ v') pb T vS vO v2 vL vF v' ss fs S ⟨F, Fi, O, L, Em ++ [q]⟩ ∧ ∀ ty, ty ≠ 4 → ty ≠ 49 → Kty ty w (w6.setCell ⟨pb, 5, none⟩ v') := by
  have hem : w.ownsRow w0.heap.size 4 1 v5 Em.length (Em.map Value.bool) := h.em
  have hb6 : w6.heap[pb]? = some (.cells #[vS, vO, v2, vL, vF, v5] 49 (0, 0)) := Kty.grown hem hg (by decide) _ _ _ h.rn.blk
  have hk : ∀ ty, ty ≠ 4 → ty ≠ 49 → Kty ty w (w6.setCell ⟨pb, 5, none⟩ v') := fun ty h1 h2 => (Kty.grown hem hg h1).trans (Kty.set (p := ⟨pb, 5, none⟩) hb6 (Ne.symm h2) v')
  have hag : Ag (fun j => v5.ownBlock ≠ some j) w w6 := (Ag.refl _ w).grown hg (fun k hk hn => hn hk)
  have hsz : w.heap.size ≤ (w6.setCell ⟨pb, 5, none⟩ v').heap.size := by have := hag.size; simpa [World.setCell] using this
  have hr := h.rn
  refine ⟨hb6, ⟨⟨nset5 hb6 v', owns_kty hr.sets (hk _ (by decide) (by decide)), hr.sl, hr.sr, owns_kty hr.ofs (hk _ (by decide) (by decide)), owns_kty (owns_ag hr.last hag fun j hj e => h.emT j e (hr.tL j hj)) (Kty.set (p := ⟨pb, 5, none⟩) hb6 (by decide) v'),
    ⟨hr.fol.len, owns_kty hr.fol.tab (hk _ (by decide) (by decide)), fun i hi => owns_kty (hr.fol.own i hi) (hk _ (by decide) (by decide)), hr.fol.ok⟩, hr.lenO, hr.lenL, hr.lenF, hr.tp, hr.tS, hr.tO, hr.tL, hr.tF, fun j hj => ⟨(hr.tlt j hj).1, Nat.lt_of_lt_of_le (hr.tlt j hj).2 hsz⟩, ?_⟩,
    ⟨owns_kty h.fi.own (hk _ (by decide) (by decide)), h.fi.no⟩, ?_, fun j hj hT => ?_⟩, hk⟩
  · exact (hr.bel.trans (hag.below hr.bel.size fun k hk e => by have := (hem.lt k e).1; omega)).setCell (p := ⟨pb, 5, none⟩) hr.low.1 v'
  · show (w6.setCell ⟨pb, 5, none⟩ v').ownsRow w0.heap.size 4 1 v' (Em ++ [q]).length ((Em ++ [q]).map Value.bool)
    rw [List.length_append, List.map_append]
    exact owns_kty hown (Kty.set (p := ⟨pb, 5, none⟩) hb6 (by decide) v')
  · rcases hp j hj with h1 | h1
    · exact h.emT j h1 hT
    · have := (hr.tlt j hT).2; omega
theorem RB.first (h : RB w0 w pb T vS vO v2 vL vF v5 ss fs S ⟨F, Fi, O, L, Em⟩) (hown : w6.ownsRow w.heap.size 3 1 v' l.length (ints1 l)) (hb : Below w.heap.size w w6) : RB w0 (w6.setCell ⟨pb, 2, none⟩ v') pb T vS vO v' vL vF v5 ss fs S ⟨F, l, O, L, Em⟩ ∧ ∀ ty, ty ≠ 49 → Kty ty w (w6.setCell ⟨pb, 2, none⟩ v') := by
  have hr := h.rn.moved hb
  have hk : ∀ ty, ty ≠ 49 → Kty ty w6 (w6.setCell ⟨pb, 2, none⟩ v') := fun ty h2 => Kty.set (p := ⟨pb, 2, none⟩) hr.blk (Ne.symm h2) v'
  have hsz : (w6.setCell ⟨pb, 2, none⟩ v').heap.size = w6.heap.size := by simp [World.setCell]
  have h0 := h.rn.bel.size
  refine ⟨?_, fun ty h2 => (Kty.of hb).trans (hk ty h2)⟩
  exact ⟨⟨nset2 hr.blk v', owns_kty hr.sets (hk _ (by decide)), hr.sl, hr.sr, owns_kty hr.ofs (hk _ (by decide)), owns_kty hr.last (hk _ (by decide)), ⟨hr.fol.len, owns_kty hr.fol.tab (hk _ (by decide)), fun i hi => owns_kty (hr.fol.own i hi) (hk _ (by decide)), hr.fol.ok⟩,
    hr.lenO, hr.lenL, hr.lenF, hr.tp, hr.tS, hr.tO, hr.tL, hr.tF, fun j hj => ⟨(hr.tlt j hj).1, by rw [hsz]; exact (hr.tlt j hj).2⟩, hr.bel.setCell (p := ⟨pb, 2, none⟩) hr.low.1 v'⟩,
    ⟨owns_base (owns_kty hown (hk _ (by decide))) h0, fun j hj hT => by have := (h.rn.tlt j hT).2; have := (hown.lt j hj).1; omega⟩, owns_kty (owns_below h.em hb) (hk _ (by decide)), h.emT⟩
theorem RB.last (h : RB w0 w pb T vS vO v2 (.slice (some ⟨g, 0, none⟩) L.length c) vF v5 ss fs S ⟨F, Fi, O, L, Em⟩) : RB w0 (w.setCell ⟨g, m, none⟩ (.bool true)) pb T vS vO v2 (.slice (some ⟨g, 0, none⟩) L.length c) vF v5 ss fs S ⟨F, Fi, O, L.set m true, Em⟩ ∧ ∀ ty, ty ≠ 4 → Kty ty w (w.setCell ⟨g, m, none⟩ (.bool true)) := by
  have hr := h.rn
  have hlast : w.ownsRow w0.heap.size 4 1 (.slice (some ⟨g, 0, none⟩) L.length c) L.length (L.map Value.bool) := hr.last
  obtain ⟨cur, hg⟩ := own_typ hlast (k := g) rfl
  have hk : ∀ ty, ty ≠ 4 → Kty ty w (w.setCell ⟨g, m, none⟩ (.bool true)) := fun ty h2 => Kty.set (p := ⟨g, m, none⟩) hg (Ne.symm h2) _
  have hsz : (w.setCell ⟨g, m, none⟩ (.bool true)).heap.size = w.heap.size := by simp [World.setCell]
  have hgT := hr.tL g rfl
  refine ⟨?_, hk⟩
  refine ⟨⟨hk _ (by decide) _ _ _ hr.blk, owns_kty hr.sets (hk _ (by decide)), hr.sl, hr.sr, owns_kty hr.ofs (hk _ (by decide)), ?_, ⟨hr.fol.len, owns_kty hr.fol.tab (hk _ (by decide)), fun i hi => owns_kty (hr.fol.own i hi) (hk _ (by decide)), hr.fol.ok⟩,
    hr.lenO, by show (L.set m true).length = _; rw [List.length_set]; exact hr.lenL, hr.lenF, hr.tp, hr.tS, hr.tO, hr.tL, hr.tF, fun j hj => ⟨(hr.tlt j hj).1, by rw [hsz]; exact (hr.tlt j hj).2⟩, hr.bel.setCell (p := ⟨g, m, none⟩) (hr.tlt g hgT).1 _⟩,
    ⟨owns_kty h.fi.own (hk _ (by decide)), h.fi.no⟩, ownsRow_setCell_other h.em (fun e => h.emT g e hgT) _, h.emT⟩
  show (w.setCell ⟨g, m, none⟩ (.bool true)).ownsRow w0.heap.size 4 1 (.slice (some ⟨g, 0, none⟩) L.length c) (L.set m true).length ((L.set m true).map Value.bool)
  rw [List.length_set, List.map_set]
  exact afowns_turn _ hlast
theorem RB.fol0 (h : RB w0 w pb T vS vO v2 vL (.slice (some ⟨g, 0, none⟩) F.length c) v5 ss fs S ⟨F, Fi, O, L, Em⟩) (h0 : 0 < F.length) : RB w0 (w.setCell ⟨g, 0, none⟩ v2) pb T vS vO v2 vL (.slice (some ⟨g, 0, none⟩) F.length c) v5 ss (fs.set 0 v2) S ⟨F.set 0 Fi, Fi, O, L, Em⟩ := by
  have hr := h.rn
  have htab : w.ownsRow w0.heap.size 23 1 (.slice (some ⟨g, 0, none⟩) F.length c) F.length fs := hr.fol.tab
  obtain ⟨cur, hg⟩ := own_typ htab (k := g) rfl
  have hk : ∀ ty, ty ≠ 23 → Kty ty w (w.setCell ⟨g, 0, none⟩ v2) := fun ty h2 => Kty.set (p := ⟨g, 0, none⟩) hg (Ne.symm h2) _
  have hsz : (w.setCell ⟨g, 0, none⟩ v2).heap.size = w.heap.size := by simp [World.setCell]
  have hgT := hr.tF g rfl
  have hf : RFol w w0.heap.size (fun j => ¬ T j) (.slice (some ⟨g, 0, none⟩) F.length c) fs F := hr.fol
  have hput := hf.put h0 (r := Fi) h.fi.own h.fi.no
  refine ⟨⟨hk _ (by decide) _ _ _ hr.blk, owns_kty hr.sets (hk _ (by decide)), hr.sl, hr.sr, owns_kty hr.ofs (hk _ (by decide)), owns_kty hr.last (hk _ (by decide)), hput,
    hr.lenO, hr.lenL, by show (F.set 0 Fi).length = _; rw [List.length_set]; exact hr.lenF, hr.tp, hr.tS, hr.tO, hr.tL, hr.tF, fun j hj => ⟨(hr.tlt j hj).1, by rw [hsz]; exact (hr.tlt j hj).2⟩, hr.bel.setCell (p := ⟨g, 0, none⟩) (hr.tlt g hgT).1 _⟩,
    ⟨owns_kty h.fi.own (hk _ (by decide)), h.fi.no⟩, owns_kty h.em (hk _ (by decide)), h.emT⟩
end
theorem owns_some {w : World} {B n : Nat} {ty : TypeId} {v : Value} {xs : List Value} (h : w.ownsRow B ty 1 v n xs) (hn : 0 < n) : ∃ g c, v = .slice (some ⟨g, 0, none⟩) n c := by
  have h1 := h.1
  rcases h.2 with ⟨rfl, h0⟩ | ⟨g, cap, cur, rfl, _⟩
  · omega
  · exact ⟨g, cap, rfl⟩
theorem PRd.kty {w w' : World} {B : Nat} {T : Nat → Prop} {v : Value} {l : List Int} (h : PRd w B T v l) (k : Kty 3 w w') : PRd w' B T v l := ⟨owns_kty h.own k, h.no⟩
namespace Nf
theorem dm_ok (l : List RE) (hl : ∀ e ∈ l, e.prt = true ∧ e.size ≤ 60) : ∀ i, i ≤ l.length → DOk (1 + (stsL l).length) i (stsL (l.take i)).length (dl (l.take i) d0) (bl (l.take i) (b0 (1 + (stsL l).length))) := by
  intro i
  induction i with
  | zero => intro _; rw [List.take_zero, stsL_nil]; exact d0_ok _
  | succ i ih =>
    intro hi
    obtain ⟨e, he⟩ : ∃ e, l[i]? = some e := ⟨l[i], List.getElem?_eq_getElem (by omega)⟩
    have hle := hl e (List.mem_of_getElem? he)
    have hb := bl_ok l hl i (by omega)
    have hlen := stsL_take_len l (i + 1)
    rw [stsL_next l i e he, List.length_append] at hlen
    rw [dl_next l _ i e he, bl_next l _ i e he, stsL_next l i e he, List.length_append]
    exact dst_ok (ih (by omega)) hb e hle.1 (by omega)
end Nf
theorem RB.start (w W : World) (hW : W = ((((w.alloc (.cells #[.slice none 0 0] 39)).alloc (.cells #[.int .i64 (-1)] 3)).alloc (.cells #[.bool false] 4)).alloc (.cells #[.slice none 0 0] 23)).alloc (.cells #[.slice (some ⟨w.heap.size, 0, none⟩) 1 1, .slice (some ⟨w.heap.size + 1, 0, none⟩) 1 1, .slice none 0 0, .slice (some ⟨w.heap.size + 2, 0, none⟩) 1 1, .slice (some ⟨w.heap.size + 3, 0, none⟩) 1 1, .slice none 0 0] 49)) :
    ∃ T, RB w W (w.heap.size + 4) T (.slice (some ⟨w.heap.size, 0, none⟩) 1 1) (.slice (some ⟨w.heap.size + 1, 0, none⟩) 1 1) (.slice none 0 0) (.slice (some ⟨w.heap.size + 2, 0, none⟩) 1 1) (.slice (some ⟨w.heap.size + 3, 0, none⟩) 1 1) (.slice none 0 0) [.slice none 0 0] [.slice none 0 0] [[]] Nf.d0 := by
  obtain ⟨w1, h1⟩ : ∃ x, x = w.alloc (.cells #[.slice none 0 0] 39) := ⟨_, rfl⟩
  obtain ⟨w2, h2⟩ : ∃ x, x = w1.alloc (.cells #[.int .i64 (-1)] 3) := ⟨_, rfl⟩
  obtain ⟨w3, h3⟩ : ∃ x, x = w2.alloc (.cells #[.bool false] 4) := ⟨_, rfl⟩
  obtain ⟨w4, h4⟩ : ∃ x, x = w3.alloc (.cells #[.slice none 0 0] 23) := ⟨_, rfl⟩
  rw [← h1, ← h2, ← h3, ← h4] at hW
  have s1 : w1.heap.size = w.heap.size + 1 := by rw [h1]; simp
  have s2 : w2.heap.size = w.heap.size + 2 := by rw [h2]; simp; omega
  have s3 : w3.heap.size = w.heap.size + 3 := by rw [h3]; simp; omega
  have s4 : w4.heap.size = w.heap.size + 4 := by rw [h4]; simp; omega
  have s5 : W.heap.size = w.heap.size + 5 := by rw [hW]; simp; omega
  have b1 : Below w.heap.size w w1 := by rw [h1]; exact bel_new (Below.refl _ _) _
  have b2 : Below w1.heap.size w1 w2 := by rw [h2]; exact bel_new (Below.refl _ _) _
  have b3 : Below w2.heap.size w2 w3 := by rw [h3]; exact bel_new (Below.refl _ _) _
  have b4 : Below w3.heap.size w3 w4 := by rw [h4]; exact bel_new (Below.refl _ _) _
  have b5 : Below w4.heap.size w4 W := by rw [hW]; exact bel_new (Below.refl _ _) _
  have g0 : W.heap[w.heap.size]? = some (.cells #[.slice none 0 0] 39 (0, 0)) := bel_get (bel_then (bel_then (bel_then b2 b3) b4) b5) (by rw [h1]; exact heap_alloc_new w _)
  have g1 : W.heap[w.heap.size + 1]? = some (.cells #[.int .i64 (-1)] 3 (0, 0)) := bel_get (bel_then (bel_then b3 b4) b5) (by rw [h2, ← s1]; exact heap_alloc_new w1 _)
  have g2 : W.heap[w.heap.size + 2]? = some (.cells #[.bool false] 4 (0, 0)) := bel_get (bel_then b4 b5) (by rw [h3, ← s2]; exact heap_alloc_new w2 _)
  have g3 : W.heap[w.heap.size + 3]? = some (.cells #[.slice none 0 0] 23 (0, 0)) := bel_get b5 (by rw [h4, ← s3]; exact heap_alloc_new w3 _)
  have g4 : W.heap[w.heap.size + 4]? = some (.cells #[.slice (some ⟨w.heap.size, 0, none⟩) 1 1, .slice (some ⟨w.heap.size + 1, 0, none⟩) 1 1, .slice none 0 0, .slice (some ⟨w.heap.size + 2, 0, none⟩) 1 1, .slice (some ⟨w.heap.size + 3, 0, none⟩) 1 1, .slice none 0 0] 49 (0, 0)) := by rw [hW, ← s4]; exact heap_alloc_new w4 _
  have hone : ∀ (ty : TypeId) (b : Nat) (u : Value), w.heap.size ≤ b → W.heap[b]? = some (.cells #[u] ty (0, 0)) → W.ownsRow w.heap.size ty 1 (.slice (some ⟨b, 0, none⟩) 1 1) 1 [u] := fun ty b u hb hg => ⟨rfl, .inr ⟨b, _, _, rfl, hb, hg, Nat.le_refl _, by simp [maxLen], rfl, rfl⟩⟩
  have hob : ∀ (b j : Nat), (Value.slice (some ⟨b, 0, none⟩) 1 1).ownBlock = some j → b = j := fun b j h => by simpa [Value.ownBlock] using h
  have hno : ∀ j, ¬ (Value.slice none 0 0).ownBlock = some j := fun j h => by simp [Value.ownBlock] at h
  refine ⟨fun j => w.heap.size ≤ j ∧ j < w.heap.size + 5, ⟨⟨g4, hone _ _ _ (Nat.le_refl _) g0, rfl, fun i hi => ?_, hone _ _ _ (by omega) g1, hone _ _ _ (by omega) g2, ⟨rfl, hone _ _ _ (by omega) g3, fun i hi => ?_, fun i hi j hj => ?_⟩, rfl, rfl, rfl, ⟨by omega, by omega⟩, fun j hj => ?_, fun j hj => ?_, fun j hj => ?_, fun j hj => ?_, fun j hj => ⟨hj.1, by omega⟩, bel_then (bel_then (bel_then (bel_then b1 b2) b3) b4) b5⟩, PRd.nil _ _ _, World.ownsRow_nil _ _ _ _, fun j hj => absurd hj (hno j)⟩⟩
  · obtain rfl : i = 0 := by simp at hi; exact hi
    exact Row.nil w
  · obtain rfl : i = 0 := by simp [Nf.d0] at hi; exact hi
    exact World.ownsRow_nil _ _ _ _
  · obtain rfl : i = 0 := by simp [Nf.d0] at hi; exact hi
    exact absurd hj (hno j)
  · have := hob _ _ hj; omega
  · have := hob _ _ hj; omega
  · have := hob _ _ hj; omega
  · have := hob _ _ hj; omega
end Go.Proofs.YtmgfpcblbbpahaaGreat
