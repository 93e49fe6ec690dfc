/- regex.mark: the nodes of an expression, all of them. -/
import Derived.Test.YtmgfpcblbbpahaaGreatNfNode
import Derived.Deep.RegionHeld3
import Derived.Deep.AppendLies
import Derived.Deep.RegionLaw
set_option linter.unusedVariables false
set_option linter.unusedSimpArgs false
namespace Go.Proofs.YtmgfpcblbbpahaaGreat
open Go.RowKit Ru

/-- a tree of nodes that have read nothing, in new blocks -/
structure DT (w0 w : World) (e : RE) (w' : World) (t : FT) : Prop where
  kp : KP (fun k => w.heap.size ≤ k ∧ k < w'.heap.size) w' (fun w2 => Nd w0 w2 e t)
  cl : t.clean
  nodup : t.blks.Nodup
  low : ∀ k ∈ t.blks, w.heap.size ≤ k
def DPost (w0 w : World) (e : RE) (x : Ending) (w' : World) : Prop := ∃ t, x = .returned (.pointer (some ⟨t.q, 0, none⟩)) ∧ DT w0 w e w' t ∧ Below w.heap.size w w'
theorem prt_part {e c : RE} {i : Nat} (h : e.prt = true) (hc : e.parts[i]? = some c) : c.prt = true := by
  have hL : ∀ (l : List RE), RE.prtL l = true → ∀ c ∈ l, c.prt = true := by
    intro l
    induction l with
    | nil => intro _ c hc; simp at hc
    | cons a l ih =>
      intro h c hc
      rw [RE.prtL_cons, Bool.and_eq_true] at h
      rcases List.mem_cons.1 hc with rfl | hc
      · exact h.1
      · exact ih h.2 c hc
  rw [RE.prt_eq, Bool.and_eq_true] at h
  exact hL _ h.2 c (List.mem_of_getElem? hc)
theorem DT.node {w0 w w' : World} {e : RE} {t : FT} (h : DT w0 w e w' t) : NodeAt w' t.q e := by
  obtain ⟨qs, sv, pv, h1, _⟩ := h.kp.here.nodeF
  rw [FT.clean_f h.cl] at h1
  exact ⟨sv, pv, h1⟩
theorem DT.qlow {w0 w w' : World} {e : RE} {t : FT} (h : DT w0 w e w' t) : w.heap.size ≤ t.q := h.low t.q t.q_mem
/-- the parts' trees -/
structure TS (w0 : World) (p : Nat) (e : RE) (wx : World) (v : Value) (qs : List Nat) (ts : List FT) : Prop where
  qs : qs = ts.map FT.q
  cl : ∀ t ∈ ts, t.clean ∧ ∀ k ∈ t.blks, p < k
  nodup : (ts.flatMap FT.blks).Nodup
  nd : ∀ (i : Nat) (c : RE) (t : FT), e.parts[i]? = some c → ts[i]? = some t → ∃ lo hi : Nat, KP (fun k => lo ≤ k ∧ k < hi) wx (fun w2 => Nd w0 w2 c t) ∧ p < lo ∧ hi ≤ wx.heap.size ∧ ∀ j, v.ownBlock = some j → j < lo ∨ hi ≤ j
theorem TS.nil (w0 : World) (p : Nat) (e : RE) (wx : World) (v : Value) : TS w0 p e wx v [] [] := ⟨rfl, fun t h => by simp at h, by simp, fun i c t _ h => by simp at h⟩
theorem TS.moved {w0 wx wy : World} {p : Nat} {e : RE} {v : Value} {qs : List Nat} {ts : List FT} (h : TS w0 p e wx v qs ts) (hb : Below wx.heap.size wx wy) : TS w0 p e wy v qs ts :=
  ⟨h.qs, h.cl, h.nodup, fun i c t hc ht => by obtain ⟨lo, hi, h1, h2, h3, h4⟩ := h.nd i c t hc ht; exact ⟨lo, hi, h1.to (.of hb), h2, Nat.le_trans h3 hb.size, h4⟩⟩
/-- one part more -/
theorem TS.push {w0 w3 w7 X : World} {p k : Nat} {e c : RE} {v v' : Value} {qs : List Nat} {ts : List FT} {t : FT} (h : TS w0 p e X v qs ts) (hk : ts.length = k) (hc : e.parts[k]? = some c) (hd : DT w0 X c w3 t) (hb : Below X.heap.size X w3) (hp : p < X.heap.size)
    (hv : ∀ j, v.ownBlock = some j → j < X.heap.size) (h7 : Ag (fun k => k ≠ p ∧ v.ownBlock ≠ some k) w3 w7) (hf : ∀ j, v'.ownBlock = some j → v.ownBlock = some j ∨ w3.heap.size ≤ j) : TS w0 p e w7 v' (qs ++ [t.q]) (ts ++ [t]) := by
  have hs := hb.size
  refine ⟨by rw [h.qs]; simp, fun u hu => ?_, ?_, fun i d u hd' hu => ?_⟩
  · rcases List.mem_append.1 hu with hu | hu
    · exact h.cl u hu
    · rw [List.mem_singleton] at hu; subst hu
      exact ⟨hd.cl, fun j hj => by have := hd.low j hj; omega⟩
  · rw [List.flatMap_append, List.nodup_append]
    refine ⟨h.nodup, by simpa using hd.nodup, fun a ha b hb' => ?_⟩
    obtain ⟨u, hu, ha⟩ := List.mem_flatMap.1 ha
    obtain ⟨i, hi, rfl⟩ := List.mem_iff_getElem.1 hu
    have hb2 : b ∈ t.blks := by simpa using hb'
    have hlow := hd.low b hb2
    have hpi : i < e.parts.length := by have := (List.getElem?_eq_some_iff.1 hc).1; omega
    obtain ⟨lo, hi', h0, _⟩ := h.nd i e.parts[i] ts[i] (List.getElem?_eq_getElem hpi) (List.getElem?_eq_getElem hi)
    have := h0.here.low a ha
    omega
  · rcases Nat.lt_or_ge i k with hik | hik
    · rw [List.getElem?_append_left (by omega)] at hu
      obtain ⟨lo, hi, h1, h2, h3, h4⟩ := h.nd i d u hd' hu
      refine ⟨lo, hi, (h1.to (.of hb)).to (h7.sub fun j _ hj => ⟨by omega, fun e => by have := h4 j e; omega⟩), h2, Nat.le_trans h3 (Nat.le_trans hs h7.size), fun j hj => ?_⟩
      rcases hf j hj with h5 | h5
      · exact h4 j h5
      · exact .inr (by omega)
    · have hi2 : i = k := by
        have := (List.getElem?_eq_some_iff.1 hu).1
        simp at this; omega
      subst hi2
      rw [List.getElem?_append_right (by omega), hk, Nat.sub_self] at hu
      simp at hu
      subst hu
      rw [hc] at hd'
      cases hd'
      refine ⟨X.heap.size, w3.heap.size, hd.kp.to (h7.sub fun j _ hj => ⟨by omega, fun e => by have := hv j e; omega⟩), hp, h7.size, fun j hj => ?_⟩
      rcases hf j hj with h5 | h5
      · exact .inl (hv j h5)
      · exact .inr h5
/-- the node and its parts' trees are a tree -/
theorem TS.tree {w0 w wo W : World} {p : Nat} {e : RE} {qs : List Nat} {ts : List FT} {sv : Value} {o : Option Addr} {cp : Nat} (h : TS w0 p e wo (.slice o e.parts.length cp) qs ts) (hl : ts.length = e.parts.length) (hp : e.prt = true) (hW : Ag (fun k => k ≠ p) wo W)
    (hcell : W.heap[p]? = some (.cells #[.int .i64 e.kind, sv, .slice o e.parts.length cp, .bool e.emp, .bool false] 76 (0, 0))) (h0 : w0.heap.size ≤ p) (hwp : w.heap.size ≤ p) (hrow : Row w0 sv e.set.length (flatK .i32 e.set)) (hown : wo.ownsRow (p + 1) 72 1 (.slice o e.parts.length cp) e.parts.length (ptrs qs)) :
    ∃ t, t.q = p ∧ DT w0 w e W t := by
  have hown' : W.ownsRow (p + 1) 72 1 (.slice o e.parts.length cp) e.parts.length (ptrs qs) := owns_ag hown hW fun j hj e => by have := (hown.lt j hj).1; omega
  have hql : qs.length = e.parts.length := by rw [h.qs]; simp [hl]
  have hN : KP (fun k => w.heap.size ≤ k ∧ k < W.heap.size) W (fun w2 => NodeF w0 w2 p e false qs) := fun w2 h2 =>
    ⟨sv, _, (h2.block p (hp_lt hcell) ⟨hwp, hp_lt hcell⟩).trans hcell, h0, hrow, by rw [hql]; exact owns_base (owns_ag hown' h2 fun j hj => by have := hown'.lt j hj; omega) (by omega)⟩
  have hnd : ∀ (i : Nat) (c : RE) (t : FT), e.parts[i]? = some c → ts[i]? = some t → KP (fun k => w.heap.size ≤ k ∧ k < W.heap.size) W (fun w2 => Nd w0 w2 c t) := fun i c t hc ht => by
    obtain ⟨lo, hi, h1, h2, h3, h4⟩ := h.nd i c t hc ht
    exact (h1.to (hW.sub fun j _ hj => by omega)).sub fun j _ hj => ⟨by omega, by have := hW.size; omega⟩
  have hcl := h.cl
  have hnn := h.nodup
  have hqs := h.qs
  have h3 : e.parts.length ≤ 2 := by
    cases e with
    | mk k s l => rcases Nf.prt_cases hp with ⟨_, rfl⟩ | ⟨_, rfl⟩ | ⟨_, rfl, _⟩ | ⟨_, a, rfl, _⟩ | ⟨_, a, b, rfl, _⟩ <;> simp [RE.parts]
  subst hqs
  obtain ⟨l, he⟩ : ∃ l, e.parts = l := ⟨_, rfl⟩
  rw [he] at hl h3 hnd
  rcases l with _ | ⟨x, _ | ⟨y, _ | ⟨z, l⟩⟩⟩
  · obtain rfl : ts = [] := List.eq_nil_of_length_eq_zero hl
    exact ⟨.leaf p false, rfl, fun w2 h2 => ⟨he, hN w2 h2⟩, rfl, by simp [FT.blks], fun k hk => by simp [FT.blks] at hk; omega⟩
  · obtain ⟨a, rfl⟩ := List.length_eq_one_iff.1 hl
    have ha := hcl a (by simp)
    refine ⟨.one p false a, rfl, fun w2 h2 => ⟨x, he, hN w2 h2, hnd 0 x a rfl rfl w2 h2⟩, ⟨rfl, ha.1⟩, ?_, fun k hk => ?_⟩
    · simp only [FT.blks, List.nodup_cons]
      exact ⟨fun hin => by have := ha.2 p hin; omega, by simpa using hnn⟩
    · rcases List.mem_cons.1 hk with rfl | hk
      · exact hwp
      · have := ha.2 k hk; omega
  · obtain ⟨a, b, rfl⟩ : ∃ a b, ts = [a, b] := by
      rcases ts with _ | ⟨a, _ | ⟨b, _ | ⟨c, ts⟩⟩⟩
      · simp at hl
      · simp at hl
      · exact ⟨a, b, rfl⟩
      · simp at hl
    have ha := hcl a (by simp)
    have hb := hcl b (by simp)
    refine ⟨.two p false a b, rfl, fun w2 h2 => ⟨x, y, he, hN w2 h2, hnd 0 x a rfl rfl w2 h2, hnd 1 y b rfl rfl w2 h2⟩, ⟨rfl, ha.1, hb.1⟩, ?_, fun k hk => ?_⟩
    · simp only [FT.blks, List.nodup_cons]
      refine ⟨fun hin => ?_, by simpa using hnn⟩
      rcases List.mem_append.1 hin with h | h
      · have := ha.2 p h; omega
      · have := hb.2 p h; omega
    · rcases List.mem_cons.1 hk with rfl | hk
      · exact hwp
      · rcases List.mem_append.1 hk with h | h
        · have := ha.2 k h; omega
        · have := hb.2 k h; omega
  · simp at h3
def MkD (w0 : World) (N : Nat) : Prop := ∀ (e : RE) (sv lv : Value) (w : World), e.size ≤ N → e.Fit → e.Wf → e.prt = true → ReIs w0 e sv lv → Below w0.heap.size w0 w →
  Calls Tryz.prog 41 #[.agg #[.int .i64 e.kind, sv, lv]] w fun x w' => DPost w0 w e x w'
set_option maxHeartbeats 8000000 in
set_option maxRecDepth 100000 in
theorem markD_any (w0 : World) : ∀ N, MkD w0 N := by
  intro N
  induction N with
  | zero => intro e sv lv w hs; have := e.size_pos; omega
  | succ N ih =>
    intro e sv lv w hs hf hwf hprt hr hb0
    obtain ⟨⟨o1, q1, rfl⟩, -⟩ := hr.form
    obtain ⟨o2, q2, c1, c2, rfl, hall⟩ := hr.all
    have hm1 := hf.sets
    have HALL := Lib.hid hall
    have HF := Lib.hid (And.intro hf (And.intro hwf hprt))
    have hrow0 := Lib.hid hr.set
    obtain ⟨ii, hi, hz0, hz1, hz2⟩ := infoNodeP
    clear hall hr
    go_enter Tryz.func41, Tryz.ntmps41
    go_wp2_with fail
    obtain ⟨p, hp⟩ : ∃ p, p = w.heap.size + 1 := ⟨_, rfl⟩
    obtain ⟨W, hW⟩ : ∃ W, W = (w.alloc (.cells #[.int .i64 e.kind, .slice o1 e.set.length q1, .slice o2 e.parts.length q2] 41)).alloc (.cells #[.int .i64 e.kind, .slice o1 e.set.length q1, .slice none 0 0, .bool false, .bool false] 76) := ⟨_, rfl⟩
    have hbW : Below w.heap.size w W := by rw [hW]; exact bel_new (bel_new (Below.refl _ _) _) _
    have hE : W.heap[w.heap.size]? = some (.cells #[.int .i64 e.kind, .slice o1 e.set.length q1, .slice o2 e.parts.length q2] 41 (0, 0)) := by
      rw [hW, Below.heap_alloc _ _ _ (by simp)]; exact heap_alloc_new w _
    have hP : W.heap[p]? = some (.cells #[.int .i64 e.kind, .slice o1 e.set.length q1, .slice none 0 0, .bool false, .bool false] 76 (0, 0)) := by
      rw [hW, hp]
      have := heap_alloc_new (w.alloc (.cells #[.int .i64 e.kind, .slice o1 e.set.length q1, .slice o2 e.parts.length q2] 41)) (.cells #[.int .i64 e.kind, .slice o1 e.set.length q1, .slice none 0 0, .bool false, .bool false] 76)
      simpa using this
    have hpw : w.heap.size < p := by omega
    have hb1 := hb0.size
    rw [← hW, ← hp]
    have H0 := Lib.hid (And.intro hbW (And.intro hE hP))
    clear hbW hE hP hW hp
    go_loopg [16] e.parts.length (fun g s wx => ∃ (k : Nat) (qs : List Nat) (o : Option Addr) (cp : Nat), k + g = e.parts.length ∧ s = .int .i64 k ∧ qs.length = k ∧ Below w.heap.size w wx ∧ wx.heap[w.heap.size]? = some (.cells #[.int .i64 e.kind, .slice o1 e.set.length q1, .slice o2 e.parts.length q2] 41 (0, 0)) ∧
      wx.heap[p]? = some (.cells #[.int .i64 e.kind, .slice o1 e.set.length q1, .slice o k cp, .bool false, .bool false] 76 (0, 0)) ∧ wx.ownsRow (p + 1) 72 1 (.slice o k cp) k (ptrs qs) ∧ (∀ (i : Nat) (q : Nat), qs[i]? = some q → q ≠ p) ∧ (∀ (i : Nat) (c : RE) (q : Nat), e.parts[i]? = some c → qs[i]? = some q → NodeAt wx q c) ∧ ∃ ts : List FT, ts.length = k ∧ TS w0 p e wx (.slice o k cp) qs ts)
    case atStart => exact ⟨0, [], none, 0, by omega, rfl, rfl, H0.out.1, H0.out.2.1, H0.out.2.2, World.ownsRow_nil _ _ _ _, fun i q h => by simp at h, fun i c q _ h => by simp at h, [], rfl, TS.nil _ _ _ _ _⟩
    case round =>
      obtain ⟨k, qs, o, cp, hkg, rfl, hqs, hbx, hEx, hPx, hown, hne, hnodes, ts, htl, hts⟩ := hrel
      have HTS := Lib.hid (And.intro htl hts)
      clear htl hts
      have HQ := Lib.hid hne
      clear hne
      obtain ⟨wo, rfl⟩ : ∃ wo : World, wo = wr := ⟨_, rfl⟩
      have HX := Lib.hid (And.intro hbx (And.intro hEx (And.intro hPx (And.intro hown hnodes))))
      have hcE : wo.cell? ⟨w.heap.size, 0, none⟩ = some (.int .i64 e.kind) ∧ wo.cell? ⟨w.heap.size, 1, none⟩ = some (.slice o1 e.set.length q1) ∧ wo.cell? ⟨w.heap.size, 2, none⟩ = some (.slice o2 e.parts.length q2) := by simp [World.cell?, hEx]
      have hpl := hp_lt hPx
      have hlen : e.parts.length ≤ 1000 := hm1.2.2
      cases gk with
      | zero =>
        obtain rfl : k = e.parts.length := by omega
        have hd : decide ((e.parts.length : Int) < (e.parts.length : Int)) = false := by simp
        have hlt := fun j hj => hown.lt j hj
        obtain ⟨e0, e1, e2⟩ := hcE
        have hp2 : wo.cell? ⟨p, 2, none⟩ = some (.slice o e.parts.length cp) := by simp [World.cell?, hPx]
        have hp3 : wo.cell? ⟨p, 3, none⟩ = some (.bool false) ∧ wo.frozen? ⟨p, 3, none⟩ = false := by simp [World.cell?, World.frozen?, hPx]
        obtain ⟨d3, f3⟩ := hp3
        have hn1 : (0 : Int) ≤ (e.parts.length : Int) := by omega
        have hfin : ∀ (b : Bool) (w' : World), Below wo.heap.size wo w' → b = e.emp → DPost w0 w e (.returned (.pointer (some ⟨p, 0, none⟩))) (w'.setCell ⟨p, 3, none⟩ (.bool b)) := by
          intro b w' hbw hb
          have h1 := bel_get hbw HX.out.2.2.1
          subst hb
          obtain ⟨t, ht, hd⟩ := HTS.out.2.tree (w := w) (W := w'.setCell ⟨p, 3, none⟩ (.bool e.emp)) HTS.out.1 HF.out.2.2 ((Ag.of hbw).setCell (fun h => h rfl) _) (node_set3 h1 _) (by omega) (by omega) hrow0.out HX.out.2.2.2.1
          exact ⟨t, by rw [ht], hd, (bel_then HX.out.1 hbw).setCell (p := ⟨p, 3, none⟩) (by simp; omega) _⟩
        have hfin0 : e.emp = false → DPost w0 w e (.returned (.pointer (some ⟨p, 0, none⟩))) wo := fun h => by
          obtain ⟨t, ht, hd⟩ := HTS.out.2.tree (w := w) (W := wo) HTS.out.1 HF.out.2.2 (Ag.refl _ _) (by rw [h]; exact HX.out.2.2.1) (by omega) (by omega) hrow0.out HX.out.2.2.2.1
          exact ⟨t, by rw [ht], hd, HX.out.1⟩
        have HFIN := Lib.hid (And.intro hfin hfin0)
        have hall := anyNodes_any e.parts qs o cp (p + 1) wo hown hqs hnodes (by omega)
        have HANY := Lib.hid hall
        have HB := Lib.hid hbx
        have HEMP := Lib.hid (RE.emp_eq e)
        clear hfin hfin0 hall hEx hPx hown hnodes hbx
        by_cases k1 : e.kind = 1
        · have b1 : (e.kind == 1) = true := by simpa using k1
          have HE := Lib.hid (show true = e.emp by rw [HEMP.out, if_pos (.inl k1)])
          clear k1
          go_wp2_with fail
          go_ret
          exact HFIN.out.1 _ _ (by repeat (first | exact Below.refl _ _ | refine Below.drew ?_)) HE.out
        have b1 : (e.kind == 1) = false := by simpa using k1
        by_cases k5 : e.kind = 5
        · have b5 : (e.kind == 5) = true := by simpa using k5
          have HE := Lib.hid (show true = e.emp by rw [HEMP.out, if_pos (.inr k5)])
          clear k5 k1
          go_wp2_with fail
          go_ret
          exact HFIN.out.1 _ _ (by repeat (first | exact Below.refl _ _ | refine Below.drew ?_)) HE.out
        have b5 : (e.kind == 5) = false := by simpa using k5
        by_cases k4 : e.kind = 4
        · have b4 : (e.kind == 4) = true := by simpa using k4
          have HE := Lib.hid (show RE.anyE e.parts = e.emp by rw [HEMP.out, if_neg (by omega), if_pos k4])
          clear k5 k1 k4
          go_wp2_with fail
          refine (HANY.out _ (Below.refl _ _)).mono ?_
          rintro x w3 ⟨rfl, rfl⟩
          go_wp2_with fail
          go_ret
          exact HFIN.out.1 _ _ (by repeat (first | exact Below.refl _ _ | refine Below.drew ?_)) HE.out
        have b4 : (e.kind == 4) = false := by simpa using k4
        by_cases k3 : e.kind = 3
        · have b3 : (e.kind == 3) = true := by simpa using k3
          have h2 := HF.out.2.1.three k3
          have HE := Lib.hid (show RE.twoE e.parts = e.emp by rw [HEMP.out, if_neg (by omega), if_neg k4, if_pos k3])
          obtain ⟨a, ha⟩ : ∃ a, e.parts[0]? = some a := ⟨_, List.getElem?_eq_getElem (by omega)⟩
          obtain ⟨a', ha'⟩ : ∃ a, e.parts[1]? = some a := ⟨_, List.getElem?_eq_getElem (by omega)⟩
          obtain ⟨qa, hqa⟩ : ∃ a, qs[0]? = some a := ⟨_, List.getElem?_eq_getElem (by omega)⟩
          obtain ⟨qb, hqb⟩ : ∃ a, qs[1]? = some a := ⟨_, List.getElem?_eq_getElem (by omega)⟩
          have hna := HX.out.2.2.2.2 0 a qa ha hqa
          have hnb := HX.out.2.2.2.2 1 a' qb ha' hqb
          have ea := hna.emp
          have eb := hnb.emp
          obtain ⟨g, rfl, g0, g1⟩ : ∃ g, o = some ⟨g, 0, none⟩ ∧ wo.cell? ⟨g, 0, none⟩ = some (.pointer (some ⟨qa, 0, none⟩)) ∧ wo.cell? ⟨g, 1, none⟩ = some (.pointer (some ⟨qb, 0, none⟩)) := by
            have how := HX.out.2.2.2.1
            rcases how.2 with ⟨hx, h0⟩ | ⟨g, cap, cur, hv, hbg, hgg, hr⟩
            · omega
            · cases hv
              refine ⟨g, rfl, ?_, ?_⟩
              · simpa [Addr.add] using how.cells (g := g) (by simp [Value.ownBlock]) 0 (.pointer (some ⟨qa, 0, none⟩)) (by simp only [ptrs, List.getElem?_map, hqa, Option.map_some])
              · simpa [Addr.add] using how.cells (g := g) (by simp [Value.ownBlock]) 1 (.pointer (some ⟨qb, 0, none⟩)) (by simp only [ptrs, List.getElem?_map, hqb, Option.map_some])
          have hl0 : (0 : Int) < (e.parts.length : Int) := by omega
          have hl1 : (1 : Int) < (e.parts.length : Int) := by omega
          have HE2 := Lib.hid (show (a.emp && a'.emp) = e.emp by
            rw [← HE.out]
            cases hp : e.parts with
            | nil => rw [hp] at ha; cases ha
            | cons x l => cases l with
              | nil => rw [hp] at ha'; cases ha'
              | cons y l => rw [hp] at ha ha'; simp at ha ha'; subst ha; subst ha'; exact (RE.twoE_two x y l).symm)
          clear hna hnb ha ha' hqa hqb HE
          cases hae : a.emp with
          | false =>
            rw [hae] at ea HE2
            go_wp2_with fail
            refine (isEmpty_any _ _ _ ea).mono ?_
            rintro x w3 ⟨rfl, rfl⟩
            go_wp2_with fail
            go_ret
            exact HFIN.out.1 _ _ (by repeat (first | exact Below.refl _ _ | refine Below.drew ?_)) HE2.out
          | true =>
            rw [hae] at ea HE2
            go_wp2_with fail
            refine (isEmpty_any _ _ _ ea).mono ?_
            rintro x w3 ⟨rfl, rfl⟩
            go_wp2_with fail
            refine (isEmpty_any _ _ _ eb).mono ?_
            rintro x w3 ⟨rfl, rfl⟩
            go_wp2_with fail
            go_ret
            exact HFIN.out.1 _ _ (by repeat (first | exact Below.refl _ _ | refine Below.drew ?_)) (by simpa using HE2.out)
        have b3 : (e.kind == 3) = false := by simpa using k3
        have HE := Lib.hid (show e.emp = false by rw [HEMP.out, if_neg (by omega), if_neg k4, if_neg k3])
        clear k5 k1 k4 k3
        go_wp2_with fail
        go_ret
        exact HFIN.out.2 HE.out
      | succ g =>
        have hk : k < e.parts.length := by omega
        have hd : decide ((k : Int) < (e.parts.length : Int)) = true := by simp; omega
        have hk1 : (0 : Int) ≤ (k : Int) := by omega
        have hk2 : (k : Int) < (e.parts.length : Int) := by omega
        have hk9 : (k : Int) ≤ 1000 := by omega
        obtain ⟨c, hc⟩ : ∃ c, e.parts[k]? = some c := ⟨e.parts[k], List.getElem?_eq_getElem hk⟩
        obtain ⟨hrc, b, off, rfl, hbl, k0, k1, k2⟩ := HALL.out k c hc
        have hb0x := bel_then hb0 hbx
        rw [← hb0x.cell hbl] at k0
        rw [← hb0x.cell hbl] at k1
        rw [← hb0x.cell hbl] at k2
        obtain ⟨s1, hs1⟩ : ∃ s1, s1 = c1 k := ⟨_, rfl⟩
        obtain ⟨s2, hs2⟩ : ∃ s2, s2 = c2 k := ⟨_, rfl⟩
        rw [← hs1, ← hs2] at hrc
        rw [← hs1] at k1
        rw [← hs2] at k2
        obtain ⟨⟨oo1, qq1, rfl⟩, ⟨oo2, qq2, rfl⟩⟩ := hrc.form
        have hih := fun w' hb => ih c _ _ w' (by have := RE.size_part hc; omega) (HF.out.1.part hc) (HF.out.2.1.part hc) (prt_part HF.out.2.2 hc) hrc hb
        have HIH := Lib.hid hih
        have HB0X := Lib.hid hb0x
        clear hih hrc hs1 hs2 hb0x hbx hEx hPx hown hnodes hcE
        go_wp2_with fail
        obtain ⟨X, hX⟩ : ∃ X, X = wo.alloc (.cells #[.int .i64 c.kind, .slice oo1 c.set.length qq1, .slice oo2 c.parts.length qq2] 41) := ⟨_, rfl⟩
        obtain ⟨E9, hE9⟩ : ∃ E9, E9 = wo.heap.size := ⟨_, rfl⟩
        have hbX : Below wo.heap.size wo X := by rw [hX]; exact bel_new (Below.refl _ _) _
        have hPX := bel_get hbX HX.out.2.2.1
        have hEX : X.heap[E9]? = some (.cells #[.int .i64 c.kind, .slice oo1 c.set.length qq1, .slice oo2 c.parts.length qq2] 41 (0, 0)) := by rw [hX, hE9]; exact heap_alloc_new wo _
        have hXz : X.heap.size = wo.heap.size + 1 := by rw [hX]; simp
        rw [← hX, ← hE9]
        have hownX : X.ownsRow (p + 1) 72 1 (.slice o k cp) k (ptrs qs) := by rw [hX]; exact HX.out.2.2.2.1.alloc _
        have hp2 : X.cell? ⟨p, 2, none⟩ = some (.slice o k cp) := by simp [World.cell?, hPX]
        have hpf : X.frozen? ⟨p, 2, none⟩ = false := by simp [World.frozen?, hPX]
        have he0 : X.cell? ⟨E9, 0, none⟩ = some (.int .i64 c.kind) ∧ X.cell? ⟨E9, 1, none⟩ = some (.slice oo1 c.set.length qq1) ∧ X.cell? ⟨E9, 2, none⟩ = some (.slice oo2 c.parts.length qq2) := by simp [World.cell?, hEX]
        obtain ⟨e0, e1, e2⟩ := he0
        have hpX : p < X.heap.size := hp_lt hPX
        have hb0X := bel_then HB0X.out hbX
        have hE9p : ¬ E9 = p := by omega
        have hnp : some p ≠ (Value.slice o k cp).ownBlock := fun h => by have := HX.out.2.2.2.1.lt p h.symm; omega
        have HPX := Lib.hid hPX
        have HEW := Lib.hid (bel_get hbX HX.out.2.1)
        have HNX := Lib.hid (show ∀ (i : Nat) (c : RE) (q : Nat), e.parts[i]? = some c → qs[i]? = some q → NodeAt X q c from fun i c q h1 h2 => (HX.out.2.2.2.2 i c q h1 h2).moved hbX)
        have HWX := Lib.hid hbX
        clear hX hE9 hPX hEX k0 k1 k2
        have hsize0 : w0.heap.size ≤ X.heap.size := hb0X.size
        have hbwX : Below w.heap.size w X := bel_then HX.out.1 hbX
        have HBWX := Lib.hid hbwX
        clear hbX hbwX
        go_region_law
          (first
            | (go_simp; go_at_call 41; refine (HIH.out _ (by exact hb0X.drew)).mono ?_; rintro x w3 ⟨t, rfl, hdt, hb3⟩; obtain ⟨q, hqt⟩ : ∃ q, q = t.q := ⟨_, rfl⟩; have hn3 := hdt.node; have hq3 := hdt.qlow; rw [← hqt] at hn3 hq3 ⊢; have HQT := Lib.hid hqt; clear hqt; have hB3 : Below X.heap.size X w3 := bel_then (by exact (Below.refl _ _).drew) hb3; have q0 : w3.cell? ⟨p, 2, none⟩ = some (.slice o k cp) := cell_later hB3 hp2; have q9 : p < w3.heap.size := Nat.lt_of_lt_of_le hpX hB3.size; have q8 : ¬ p = w3.heap.size := by omega)
            | (refine step_append_far _ rfl _ _ 74 rfl (p + 1) 72 ii _ 1 8 Tryz.underlying74 hi hz0 hz1 hz2 rfl (by decide) (.slice o k cp) k (ptrs qs) rfl ((owns_below hownX hB3).alloc _) _ 1 [.pointer (some ⟨q, 0, none⟩)] rfl (rowOneP _ _ _ w3.heap.size rfl) rfl (by simp [Value.oneCell']) (by unfold maxLen; omega) (by omega) (by have := hB3.size; simp; omega) ?_; intro v6 w6 hown6 hg6 hf6 hb6; obtain ⟨o6, c6, rfl⟩ := owns_slice hown6; have g6 : w6.heap[p]? = some (.cells #[.int .i64 e.kind, .slice o1 e.set.length q1, .slice o k cp, .bool false, .bool false] 76 (0, 0)) := (hg6.block p (by have := hB3.size; simp; omega) hnp).trans ((Below.heap_alloc _ _ _ (by have := hB3.size; omega)).trans (bel_get hB3 HPX.out)); obtain ⟨d2, f2⟩ := node_cell2 g6))
        all_goals (
          obtain ⟨w7, hw7⟩ : ∃ w7, w7 = w6.setCell ⟨p, 2, none⟩ (.slice o6 (k + 1) c6) := ⟨_, rfl⟩
          rw [← hw7]
          have G := Lib.hid (show ∃ (k' : Nat) (qs' : List Nat) (o' : Option Addr) (cp' : Nat), k' + g = e.parts.length ∧ (Value.int .i64 (k + 1 : Nat)) = .int .i64 k' ∧ qs'.length = k' ∧ Below w.heap.size w w7 ∧ w7.heap[w.heap.size]? = some (.cells #[.int .i64 e.kind, .slice o1 e.set.length q1, .slice (some ⟨b, off, none⟩) e.parts.length q2] 41 (0, 0)) ∧
            w7.heap[p]? = some (.cells #[.int .i64 e.kind, .slice o1 e.set.length q1, .slice o' k' cp', .bool false, .bool false] 76 (0, 0)) ∧ w7.ownsRow (p + 1) 72 1 (.slice o' k' cp') k' (ptrs qs') ∧ (∀ (i : Nat) (q : Nat), qs'[i]? = some q → q ≠ p) ∧ (∀ (i : Nat) (c : RE) (q : Nat), e.parts[i]? = some c → qs'[i]? = some q → NodeAt w7 q c) ∧ ∃ ts' : List FT, ts'.length = k' ∧ TS w0 p e w7 (.slice o' k' cp') qs' ts' from by
              have hA : Below X.heap.size X (w3.alloc (.cells #[.pointer (some ⟨q, 0, none⟩)] 72)) := bel_new hB3 _
              have hlt := fun j hj => hownX.lt j hj
              have h6 : Below w.heap.size w w6 := bel_grown (bel_then HBWX.out hA) hg6 (fun j hj => by have := (hlt j hj).1; omega)
              have hE7 : ∀ j, j ≠ p → w7.heap[j]? = w6.heap[j]? := fun j hj => by rw [hw7]; exact Below.heap_setCell w6 _ _ j hj
              have far6 : some p ≠ (Value.slice o6 (k + 1) c6).ownBlock := fun h => by have := hown6.lt p h.symm; omega
              have hqp : ∀ (i : Nat) (q' : Nat), (qs ++ [q])[i]? = some q' → q' ≠ p := by
                intro i q' hq' h
                rcases Nat.lt_or_ge i k with hik | hik
                · rw [List.getElem?_append_left (by omega)] at hq'
                  exact HQ.out i q' hq' h
                · have hi2 : i = k := by
                    have := (List.getElem?_eq_some_iff.1 hq').1
                    simp at this; omega
                  subst hi2
                  rw [List.getElem?_append_right (by omega), hqs, Nat.sub_self] at hq'
                  simp at hq'
                  have := hq3
                  simp at this
                  omega
              refine ⟨k + 1, qs ++ [q], o6, c6, by omega, rfl, by simp [hqs], ?_, ?_, ?_, ?_, hqp, ?_, ts ++ [t], by simp [HTS.out.1], ?_⟩
              · rw [hw7]; exact h6.setCell (by simp; omega) _
              · rw [hE7 _ (by omega), hg6.block _ (by have := hA.size; omega) (fun h => by have := hlt _ h.symm; omega), hA.block _ (by omega)]
                exact HEW.out
              · rw [hw7]; exact node_set2 g6 _
              · have := owns_blocks' hown6 far6 hE7
                simpa [ptrs] using this
              · intro i c' q' hc' hq'
                have hq0 := hq'
                have hnA : NodeAt (w3.alloc (.cells #[.pointer (some ⟨q, 0, none⟩)] 72)) q' c' := by
                  rcases Nat.lt_or_ge i k with hik | hik
                  · rw [List.getElem?_append_left (by omega)] at hq'
                    exact (HNX.out i c' q' hc' hq').moved hA
                  · have hi2 : i = k := by
                      have := (List.getElem?_eq_some_iff.1 hq').1
                      simp at this; omega
                    subst hi2
                    rw [List.getElem?_append_right (by omega), hqs, Nat.sub_self] at hq'
                    simp at hq'
                    subst hq'
                    rw [hc] at hc'
                    cases hc'
                    exact hn3.moved (bel_new (Below.refl _ _) _)
                have hoA : (w3.alloc (.cells #[.pointer (some ⟨q, 0, none⟩)] 72)).ownsRow (p + 1) 72 1 (.slice o k cp) k (ptrs qs) := owns_below hownX hA
                exact hnA.same ((hE7 q' (hqp i q' hq0)).trans (hg6.block q' hnA.lt (node_far hnA hoA)))
              · rw [HQT.out]
                refine (HTS.out.2.moved HWX.out).push HTS.out.1 hc ⟨hdt.kp, hdt.cl, hdt.nodup, hdt.low⟩ hB3 hpX (fun j hj => by have := (hlt j hj).2; omega) ?_ (fun j hj => (hf6 j hj).imp id fun h => by simp at h; omega)
                rw [hw7]
                exact (((Ag.refl _ w3).alloc _).grown (c := w6) ⟨hg6.os, hg6.tape, hg6.output, hg6.size, hg6.block⟩ (fun j hj hn => hn.2 hj)).setCell (fun h => h.1 rfl) _)
          clear hw7 hown6 hg6 g6 hn3 d2 f2 q0 hB3 hb3 q8 hf6 hb6 hdt
          go_wp2
          go_roundg g
          case measure => omega
          case rel =>
            obtain ⟨k', qs', o', cp', h1, h2, h3⟩ := G.out
            exact ⟨k', qs', o', cp', h1, by rw [← h2]; go_num, h3⟩)
end Go.Proofs.YtmgfpcblbbpahaaGreat
