/- regex: mark, Empty. -/
import Derived.Test.YtmgfpcblbbpahaaGreatReMay2
import Derived.Test.YtmgfpcblbbpahaaGreatBut
import Derived.Deep.RegionHeld3
import Derived.Deep.AppendLies
import Derived.Deep.RegionLaw
set_option linter.unusedVariables false
set_option linter.unusedSimpArgs false
namespace Go.Proofs.YtmgfpcblbbpahaaGreat
open Go.RowKit Ru

namespace RE
mutual
/-- is the empty text of it -/
def emp : RE → Bool
  | .mk k s l => if k = 1 ∨ k = 5 then true else if k = 4 then anyE l else if k = 3 then twoE l else false
def anyE : List RE → Bool
  | [] => false
  | e :: l => emp e || anyE l
def twoE : List RE → Bool
  | [] => false
  | e :: l => emp e && (match l with | [] => false | f :: _ => emp f)
end
theorem emp_eq (e : RE) : e.emp = if e.kind = 1 ∨ e.kind = 5 then true else if e.kind = 4 then anyE e.parts else if e.kind = 3 then twoE e.parts else false := by cases e; rw [emp]; rfl
theorem anyE_iff (l : List RE) : anyE l = true ↔ ∃ (i : Nat) (e : RE), l[i]? = some e ∧ e.emp = true := by
  induction l with
  | nil => rw [anyE]; simp
  | cons a l ih =>
    rw [anyE, Bool.or_eq_true, ih]
    constructor
    · rintro (h | ⟨i, e, h1, h2⟩)
      · exact ⟨0, a, rfl, h⟩
      · exact ⟨i + 1, e, by simpa using h1, h2⟩
    · rintro ⟨i, e, h1, h2⟩
      cases i with
      | zero => simp at h1; subst h1; exact .inl h2
      | succ i => exact .inr ⟨i, e, by simpa using h1, h2⟩
theorem twoE_two (a b : RE) (l : List RE) : twoE (a :: b :: l) = (a.emp && b.emp) := by rw [twoE]
/-- what has two parts has them -/
inductive Wf : RE → Prop
  | mk (k : Int) (s : List (Int × Int)) (l : List RE) (h3 : k = 3 → 2 ≤ l.length) (h : ∀ (i : Nat) (e : RE), l[i]? = some e → Wf e) : Wf (.mk k s l)
theorem Wf.part {e p : RE} {i : Nat} (h : Wf e) (hp : e.parts[i]? = some p) : Wf p := by cases h with | mk k s l h3 h => exact h i p hp
theorem Wf.three {e : RE} (h : Wf e) (hk : e.kind = 3) : 2 ≤ e.parts.length := by cases h with | mk k s l h3 h => exact h3 hk
theorem vis_wf : ∀ (N : Nat) (e : RE), e.size ≤ N → ∀ n d, (e.vis n d).1 = true → Wf e := by
  intro N
  induction N with
  | zero => intro e h; have := e.size_pos; omega
  | succ N ih =>
    intro e hs n d h
    rw [RE.vis_eq] at h
    split at h
    · cases h
    · rename_i hc
      have hsh : e.shp = true := by
        cases hx : e.shp with
        | false => exact absurd (.inr (.inr hx)) hc
        | true => rfl
      have hp : ∀ p ∈ e.parts, p.size ≤ N := fun p hpm => by obtain ⟨i, hi, rfl⟩ := List.getElem_of_mem hpm; have := RE.size_part (e := e) (List.getElem?_eq_getElem hi); omega
      have all : ∀ (l : List RE) (m : Nat), (∀ p ∈ l, p.size ≤ N) → (RE.visL l m (d + 1)).1 = true → ∀ p ∈ l, Wf p := by
        intro l
        induction l with
        | nil => intro m _ _ p hp; simp at hp
        | cons a l ihl =>
          intro m hl h p hpm
          rw [RE.visL_cons] at h
          split at h
          · rename_i ha
            rcases List.mem_cons.1 hpm with rfl | hpm
            · exact ih p (hl p (by simp)) m (d + 1) ha
            · exact ihl _ (fun p hp => hl p (by simp [hp])) h p hpm
          · cases h
      have h1 := all e.parts (n + 1) hp h
      cases e with
      | mk k s l =>
        refine .mk k s l (fun hk => ?_) (fun i e he => h1 e (List.mem_of_getElem? he))
        subst hk
        unfold shp kind set parts at hsh
        simp at hsh
        omega
theorem may_wf {e : RE} (h : e.may = true) : Wf e := vis_wf e.size e (Nat.le_refl _) 0 1 h
end RE
/-- block q is a node of e that has read nothing -/
def NodeAt (w : World) (q : Nat) (e : RE) : Prop := ∃ sv pv, w.heap[q]? = some (.cells #[.int .i64 e.kind, sv, pv, .bool e.emp, .bool false] 76 (0, 0))
theorem NodeAt.moved {w w' : World} {q : Nat} {e : RE} (h : NodeAt w q e) (hb : Below w.heap.size w w') : NodeAt w' q e := by
  obtain ⟨sv, pv, h⟩ := h; exact ⟨sv, pv, bel_get hb h⟩
theorem NodeAt.same {w w' : World} {q : Nat} {e : RE} (h : NodeAt w q e) (hb : w'.heap[q]? = w.heap[q]?) : NodeAt w' q e := by
  obtain ⟨sv, pv, h⟩ := h; exact ⟨sv, pv, hb.trans h⟩
theorem owns_blocks' {w w' : World} {base size n p : Nat} {e : TypeId} {v : Value} {xs : List Value} (h : w.ownsRow base e size v n xs) (hne : some p ≠ v.ownBlock) (hk : ∀ k, k ≠ p → w'.heap[k]? = w.heap[k]?) : w'.ownsRow base e size v n xs := by
  obtain ⟨h1, h2⟩ := h
  rcases h2 with hn | ⟨g, cap, cur, rfl, hg, hh, hr⟩
  · exact ⟨h1, .inl hn⟩
  · refine ⟨h1, .inr ⟨g, cap, cur, rfl, hg, ?_, hr⟩⟩
    rw [hk g (by intro e; subst e; simp [Value.ownBlock] at hne)]
    exact hh
theorem NodeAt.lt {w : World} {q : Nat} {e : RE} (h : NodeAt w q e) : q < w.heap.size := by obtain ⟨sv, pv, h⟩ := h; exact hp_lt h
theorem NodeAt.emp {w : World} {q : Nat} {e : RE} (h : NodeAt w q e) : w.cell? ⟨q, 3, none⟩ = some (.bool e.emp) := by obtain ⟨sv, pv, h⟩ := h; simp [World.cell?, h]
def ptrs (qs : List Nat) : List Value := qs.map fun q => .pointer (some ⟨q, 0, none⟩)
set_option maxHeartbeats 1000000 in
theorem isEmpty_any (q : Nat) (b : Bool) (w : World) (h : w.cell? ⟨q, 3, none⟩ = some (.bool b)) :
    Calls Tryz.prog 69 #[.pointer (some ⟨q, 0, none⟩)] w fun e w' => e = .returned (.bool b) ∧ w = w' := by
  go_enter Tryz.func69, Tryz.ntmps69
  go_wp2_with fail
  go_ret
  exact ⟨rfl, rfl⟩

set_option maxHeartbeats 4000000 in
set_option maxRecDepth 100000 in
theorem reEmp_index (n : Nat) (o : Option Addr) (cap : Nat) (c0 : Nat → Nat) (St : Nat → World → Prop) (Fin : Nat → World → Prop) (w : World) (hn : n ≤ 1000000)
    (hel : ∀ i, i < n → ∃ b off, o = some ⟨b, off, none⟩ ∧ ∀ w', St i w' → w'.cell? ⟨b, off + i, none⟩ = some (.pointer (some ⟨c0 i, 0, none⟩)))
    (hf : ∀ i w', i < n → St i w' → Calls Tryz.prog 69 #[.pointer (some ⟨c0 i, 0, none⟩)] w' fun e w'' => (e = .returned (.bool true) ∧ Fin i w'') ∨ (e = .returned (.bool false) ∧ St (i + 1) w''))
    (h0 : St 0 w) :
    Calls Tryz.prog 96 #[.slice o n cap, .func (Fn.func 69) #[] #[]] w fun e w' => (∃ i : Nat, i < n ∧ e = .returned (.int .i64 i) ∧ Fin i w') ∨ (e = .returned (.int .i64 (-1)) ∧ St n w') := by
  have HEL := Lib.hid hel
  have HF := Lib.hid hf
  clear hel hf
  go_enter Tryz.func96, Tryz.ntmps96
  go_wp2_with fail
  go_loopg [8] n (fun g i wx => ∃ k : Nat, k + g = n ∧ i = .int .i64 k ∧ St k wx)
  case atStart => exact ⟨0, by omega, rfl, h0⟩
  case round =>
    obtain ⟨k, hkg, rfl, hSt⟩ := hrel
    obtain ⟨wo, rfl⟩ : ∃ wo : World, wo = wr := ⟨_, rfl⟩
    cases gk with
    | zero =>
      obtain rfl : k = n := by omega
      have hd : decide ((k : Int) < (k : Int)) = false := by simp
      have HS := Lib.hid hSt
      clear hSt
      go_wp2
      go_ret
      exact .inr ⟨rfl, HS.out⟩
    | succ g =>
      have hk : k < n := by omega
      have hd : decide ((k : Int) < (n : Int)) = true := by simp; omega
      have hk1 : (0 : Int) ≤ (k : Int) := by omega
      have hk2 : (k : Int) < (n : Int) := by omega
      have hk9 : (k : Int) ≤ 1000000 := by omega
      obtain ⟨b, off, rfl, hcell⟩ := HEL.out k hk
      have k0 := hcell wo hSt
      have hc := HF.out k wo hk hSt
      obtain ⟨d0, hd0⟩ : ∃ d, d = c0 k := ⟨_, rfl⟩
      rw [← hd0] at k0 hc
      clear hd0
      have HC := Lib.hid hc
      clear hcell hSt hc
      go_wp2_with fail
      refine HC.out.mono ?_
      rintro e w2 (⟨rfl, hfin⟩ | ⟨rfl, hst⟩)
      · have HX := Lib.hid hfin
        clear hfin
        go_wp2
        go_ret
        exact .inl ⟨k, hk, rfl, HX.out⟩
      · have HX := Lib.hid hst
        clear hst
        go_wp2
        go_roundg g
        case measure => omega
        case rel => exact ⟨k + 1, by omega, by go_num, HX.out⟩

set_option maxHeartbeats 4000000 in
set_option maxRecDepth 100000 in
theorem reEmp_contains (n : Nat) (o : Option Addr) (cap : Nat) (c0 : Nat → Nat) (St : Nat → World → Prop) (Fin : Nat → World → Prop) (w : World) (hn : n ≤ 1000000)
    (hel : ∀ i, i < n → ∃ b off, o = some ⟨b, off, none⟩ ∧ ∀ w', St i w' → w'.cell? ⟨b, off + i, none⟩ = some (.pointer (some ⟨c0 i, 0, none⟩)))
    (hf : ∀ i w', i < n → St i w' → Calls Tryz.prog 69 #[.pointer (some ⟨c0 i, 0, none⟩)] w' fun e w'' => (e = .returned (.bool true) ∧ Fin i w'') ∨ (e = .returned (.bool false) ∧ St (i + 1) w''))
    (h0 : St 0 w) :
    Calls Tryz.prog 70 #[.slice o n cap, .func (Fn.func 69) #[] #[]] w fun e w' => (∃ i : Nat, i < n ∧ e = .returned (.bool true) ∧ Fin i w') ∨ (e = .returned (.bool false) ∧ St n w') := by
  have hc := reEmp_index n o cap c0 St Fin w hn hel hf h0
  have HC := Lib.hid hc
  clear hc hf hel
  go_enter Tryz.func70, Tryz.ntmps70
  go_wp2_with fail
  refine HC.out.mono ?_
  rintro e w2 (⟨i, hi, rfl, hfin⟩ | ⟨rfl, hst⟩)
  · have HX := Lib.hid hfin
    have hi0 : decide ((0 : Int) ≤ (i : Int)) = true := by simp
    have hi9 : (i : Int) ≤ 1000000 := by omega
    clear hfin
    go_wp2
    go_ret
    exact .inl ⟨i, hi, rfl, HX.out⟩
  · have HX := Lib.hid hst
    clear hst
    go_wp2
    go_ret
    exact .inr ⟨rfl, HX.out⟩

theorem infoNodeP : ∃ i, Tryz.prog.info? 72 = some i ∧ i.zero = some (.pointer none) ∧ i.size = 1 ∧ i.bytes = 8 := info_parts (by kernel_rfl)
theorem rowOneP (w : World) (u : Value) (e : TypeId) (B : Nat) (hB : w.heap.size = B) : Row (w.alloc (.cells #[u] e)) (.slice (some ⟨B, 0, none⟩) 1 1) 1 [u] := by
  subst hB
  have h1 := World.ownsRow_lit (e := e) (base := w.heap.size) (size := 1) w #[u] 1 (Nat.le_refl _) (by decide) (by simp)
  simpa using Row.owned h1
theorem owns_drew {w : World} {base : Nat} {e : TypeId} {size n : Nat} {v : Value} {xs : List Value} (h : w.ownsRow base e size v n xs) : w.drew.ownsRow base e size v n xs := owns_below h ((Below.refl _ _).drew)
theorem node_cell2 {w : World} {p : Nat} {a b c d e : Value} {t : TypeId} (h : w.heap[p]? = some (.cells #[a, b, c, d, e] t (0, 0))) : w.cell? ⟨p, 2, none⟩ = some c ∧ w.frozen? ⟨p, 2, none⟩ = false := by simp [World.cell?, World.frozen?, h]
theorem node_set2 {w : World} {p : Nat} {a b c d e : Value} {t : TypeId} (h : w.heap[p]? = some (.cells #[a, b, c, d, e] t (0, 0))) (x : Value) : (w.setCell ⟨p, 2, none⟩ x).heap[p]? = some (.cells #[a, b, x, d, e] t (0, 0)) := by
  simp [World.setCell, Array.getElem?_modify, h]
theorem node_set3 {w : World} {p : Nat} {a b c d e : Value} {t : TypeId} (h : w.heap[p]? = some (.cells #[a, b, c, d, e] t (0, 0))) (x : Value) : (w.setCell ⟨p, 3, none⟩ x).heap[p]? = some (.cells #[a, b, c, x, e] t (0, 0)) := by
  simp [World.setCell, Array.getElem?_modify, h]
theorem node_far {w : World} {q base n : Nat} {e : RE} {v : Value} {xs : List Value} (h : NodeAt w q e) (ho : w.ownsRow base 72 1 v n xs) : some q ≠ v.ownBlock := by
  obtain ⟨sv, pv, h⟩ := h
  rcases ho.2 with ⟨rfl, _⟩ | ⟨g, cap, cur, rfl, hb, hg, _⟩
  · simp [Value.ownBlock]
  · intro hq
    simp [Value.ownBlock] at hq
    subst hq
    rw [h] at hg
    simp at hg
theorem anyNodes_any (l : List RE) (qs : List Nat) (o : Option Addr) (cp base : Nat) (w0 : World) (hown : w0.ownsRow base 72 1 (.slice o l.length cp) l.length (ptrs qs)) (hq : qs.length = l.length)
    (hn : ∀ (i : Nat) (c : RE) (q : Nat), l[i]? = some c → qs[i]? = some q → NodeAt w0 q c) (hl : l.length ≤ 1000) (w : World) (hb : Below w0.heap.size w0 w) :
    Calls Tryz.prog 70 #[.slice o l.length cp, .func (Fn.func 69) #[] #[]] w fun x w' => x = .returned (.bool (RE.anyE l)) ∧ w = w' := by
  have hown := owns_below hown hb
  have hn : ∀ (i : Nat) (c : RE) (q : Nat), l[i]? = some c → qs[i]? = some q → NodeAt w q c := fun i c q h1 h2 => (hn i c q h1 h2).moved hb
  have hget : ∀ i, i < l.length → ∃ c, l[i]? = some c ∧ NodeAt w (qs.getD i 0) c ∧ qs[i]? = some (qs.getD i 0) := by
    intro i hi
    have h1 : qs[i]? = some (qs.getD i 0) := by rw [List.getD, List.getElem?_eq_getElem (by omega)]; rfl
    exact ⟨_, List.getElem?_eq_getElem hi, hn i _ _ (List.getElem?_eq_getElem hi) h1, h1⟩
  refine (reEmp_contains l.length o cp (fun i => qs.getD i 0) (fun i w' => w = w' ∧ ∀ j c, j < i → l[j]? = some c → c.emp = false) (fun i w' => w = w' ∧ ∃ c, l[i]? = some c ∧ c.emp = true) w (by omega) ?_ ?_ ⟨rfl, fun j c h => by omega⟩).mono ?_
  · intro i hi
    obtain ⟨c, h1, h2, h3⟩ := hget i hi
    rcases hown.2 with ⟨hx, h0⟩ | ⟨g, cap, cur, hv, hbg, hgg, hr⟩
    · omega
    · cases hv
      refine ⟨g, 0, rfl, ?_⟩
      rintro w' ⟨rfl, -⟩
      have := hown.cells (g := g) (by simp [Value.ownBlock]) i (.pointer (some ⟨qs.getD i 0, 0, none⟩)) (by simp only [ptrs, List.getElem?_map, h3, Option.map_some])
      have ha : (⟨g, 0, none⟩ : Addr).add i = ⟨g, i, none⟩ := by by_cases h0 : i = 0 <;> simp [Addr.add, h0]
      rw [ha] at this
      simpa using this
  · rintro i w' hi ⟨rfl, hall⟩
    obtain ⟨c, h1, h2, h3⟩ := hget i hi
    refine (isEmpty_any _ _ _ h2.emp).mono ?_
    rintro x w2 ⟨rfl, rfl⟩
    cases hc : c.emp with
    | true => exact .inl ⟨rfl, rfl, c, h1, hc⟩
    | false =>
      refine .inr ⟨rfl, rfl, fun j c' hj hc' => ?_⟩
      rcases Nat.lt_or_ge j i with h | h
      · exact hall j c' h hc'
      · obtain rfl : j = i := by omega
        rw [h1] at hc'; cases hc'; exact hc
  · rintro x w2 (⟨i, hi, rfl, rfl, c, h1, h2⟩ | ⟨rfl, rfl, hall⟩)
    · exact ⟨by rw [(RE.anyE_iff l).2 ⟨i, c, h1, h2⟩], rfl⟩
    · refine ⟨?_, rfl⟩
      cases hx : RE.anyE l with
      | false => rfl
      | true =>
        obtain ⟨i, c, h1, h2⟩ := (RE.anyE_iff l).1 hx
        rw [hall i c (List.getElem?_eq_some_iff.1 h1).1 h1] at h2
        cases h2
end Go.Proofs.YtmgfpcblbbpahaaGreat
