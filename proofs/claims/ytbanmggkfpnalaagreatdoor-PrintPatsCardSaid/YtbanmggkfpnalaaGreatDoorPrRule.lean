/- print: a rule. -/
import Derived.Test.YtbanmggkfpnalaaGreatDoorPrPx
import Derived.Test.YtbanmggkfpnalaaGreatDoorPrJoin2
import Derived.Test.YtbanmggkfpnalaaGreatDoorGSame
set_option linter.unusedVariables false
set_option linter.unusedSimpArgs false
namespace Go.Proofs.YtbanmggkfpnalaaGreatDoor
open Go.RowKit Ru

/-- no long names anywhere -/
inductive PT.Shn : PT → Prop
  | mk (k : Int) (ns es : List ByteArray) (l : List PT) (hn : Shorts ns) (he : Shorts es) (h : ∀ (i : Nat) (p : PT), l[i]? = some p → PT.Shn p) : PT.Shn (.mk k ns es l)
theorem PT.Shn.part {e p : PT} {i : Nat} (h : e.Shn) (hp : e.parts[i]? = some p) : p.Shn := by cases h with | mk k ns es l hn he h => exact h i p hp
theorem PT.Okt.of {e : PT} (hs : e.shp = true) (hn : e.Shn) (h : ∀ (i : Nat) (p : PT), e.parts[i]? = some p → p.Okt) : e.Okt := by
  cases hn with
  | mk k ns es l h1 h2 h3 => exact .mk k ns es l hs h1 h2 h
theorem vsp_ok : ∀ (N : Nat) (e : PT), e.size ≤ N → ∀ n d, (e.vsp n d).1 = true → e.Shn → e.Okt ∧ (e.vsp n d).2 = n + e.size ∧ n + e.size ≤ 60 := by
  intro N
  induction N with
  | zero => intro e h; have := e.size_pos; omega
  | succ N ih =>
    intro e hs n d h hn
    rw [PT.vsp_eq] at h ⊢
    split at h
    · cases h
    · rename_i hc
      rw [if_neg hc]
      have hsh : e.shp = true := by
        cases hx : e.shp with
        | false => exact absurd (.inr (.inr hx)) hc
        | true => rfl
      have hsz : e.size = PT.sizes e.parts + 1 := by cases e; rw [PT.size_mk]; rfl
      have all : ∀ (l : List PT) (m : Nat), PT.sizes l ≤ N → (∀ p ∈ l, p.Shn) → m ≤ 60 → (PT.vspL l m (d + 1)).1 = true → (∀ p ∈ l, p.Okt) ∧ (PT.vspL l m (d + 1)).2 = m + PT.sizes l ∧ m + PT.sizes l ≤ 60 := by
        intro l
        induction l with
        | nil => intro m _ _ hm _; rw [PT.vspL_nil, PT.sizes_nil]; exact ⟨fun p hp => by simp at hp, rfl, hm⟩
        | cons a l ihl =>
          intro m hl hsn hm h
          rw [PT.sizes_cons] at hl ⊢
          rw [PT.vspL_cons] at h ⊢
          split at h
          · rename_i ha
            rw [if_pos ha]
            obtain ⟨x1, x2, x3⟩ := ih a (by omega) m (d + 1) ha (hsn a (by simp))
            rw [x2] at h ⊢
            obtain ⟨y1, y2, y3⟩ := ihl (m + a.size) (by omega) (fun p hp => hsn p (by simp [hp])) x3 h
            refine ⟨fun p hp => ?_, by omega, by omega⟩
            rcases List.mem_cons.1 hp with rfl | hp
            · exact x1
            · exact y1 p hp
          · cases h
      obtain ⟨x1, x2, x3⟩ := all e.parts (n + 1) (by omega) (fun p hp => by obtain ⟨i, hi, rfl⟩ := List.getElem_of_mem hp; exact hn.part (List.getElem?_eq_getElem hi)) (by omega) h
      exact ⟨PT.Okt.of hsh hn (fun i p hp => x1 p (List.mem_of_getElem? hp)), by omega, by omega⟩
theorem validB_ok {e : PT} (h : e.validB = true) (hn : e.Shn) : e.Okt ∧ e.size ≤ 60 := by
  have := vsp_ok e.size e (Nat.le_refl _) 0 1 h hn
  exact ⟨this.1, by omega⟩
/-- what Pat gives -/
def patP (e : PT) : ByteArray := if e.validB = true then e.text else ⟨#[]⟩
set_option maxHeartbeats 4000000 in
set_option maxRecDepth 100000 in
theorem prPat_any (e : PT) (nv ev lv : Value) (w : World) (h : PtIs w e nv ev lv) (hf : e.Fit) (hn : e.Shn) :
    Calls Tryz.prog 17 #[.agg #[.int .i64 e.kind, nv, ev, lv]] w fun x w' => x = .returned (.string (patP e)) ∧ Below w.heap.size w w' := by
  have hm := fun w' (hb : Below w.heap.size w w') => prvalid_any e nv ev lv w' (h.moved hb) hf
  have hx := fun (hm : e.validB = true) w' (hb : Below w.heap.size w w') => pat_any e nv ev lv w' (by have := validB_ok hm hn; omega) (validB_ok hm hn).1 (h.moved hb)
  have hp : patP e = if e.validB = true then e.text else ⟨#[]⟩ := rfl
  obtain ⟨⟨o1, q1, rfl⟩, ⟨o3, q3, rfl⟩, ⟨o2, q2, rfl⟩⟩ := h.form
  obtain ⟨m, hmm⟩ : ∃ m, m = e.validB := ⟨_, rfl⟩
  rw [← hmm] at hm hx hp
  obtain ⟨k, hk⟩ : ∃ k, k = e.kind := ⟨_, rfl⟩
  obtain ⟨a, ha⟩ : ∃ a, a = e.names.length := ⟨_, rfl⟩
  obtain ⟨c, hc⟩ : ∃ c, c = e.ends.length := ⟨_, rfl⟩
  obtain ⟨b, hb⟩ : ∃ b, b = e.parts.length := ⟨_, rfl⟩
  rw [← hk, ← ha, ← hb, ← hc] at hm hx ⊢
  have HM := Lib.hid hm
  have HX := Lib.hid hx
  have HP := Lib.hid hp
  clear hm hx hp hmm hk ha hb hc h hf hn
  cases m with
  | false =>
    go_enter Tryz.func17, Tryz.ntmps17
    go_wp2_with fail
    refine (HM.out _ (bel_new (Below.refl _ _) _)).mono ?_
    rintro x w2 ⟨rfl, hb2⟩
    have HB2 := Lib.hid (bel_then (bel_new (Below.refl w.heap.size w) _) hb2)
    clear hb2
    go_wp2_with fail
    go_ret
    exact ⟨by rw [HP.out]; rfl, HB2.out⟩
  | true =>
    go_enter Tryz.func17, Tryz.ntmps17
    go_wp2_with fail
    refine (HM.out _ (bel_new (Below.refl _ _) _)).mono ?_
    rintro x w2 ⟨rfl, hb2⟩
    have HB2 := Lib.hid (bel_then (bel_new (Below.refl w.heap.size w) _) hb2)
    obtain ⟨c0, c1, c2, c3⟩ := cell4_of (box_kept hb2)
    clear hb2
    go_wp2_with fail
    refine (HX.out trivial _ HB2.out).mono ?_
    rintro x w3 ⟨rfl, hb3⟩
    have HB3 := Lib.hid (bel_then HB2.out hb3)
    clear hb3
    go_wp2_with fail
    go_ret
    exact ⟨by rw [HP.out]; rfl, HB3.out⟩
end Go.Proofs.YtbanmggkfpnalaaGreatDoor

set_option linter.unusedVariables false
set_option linter.unusedSimpArgs false
namespace Go.Proofs.YtbanmggkfpnalaaGreatDoor
open Go.RowKit Ru

/-- a number's digits -/
def decB (c : Int) : ByteArray := ⟨(Lib.decDigits c.toNat).toArray⟩
theorem decB_size {c : Int} (h : 0 ≤ c ∧ c ≤ 31) : (decB c).size ≤ 2 := by
  have : ∀ n : Nat, n ≤ 31 → (Lib.decDigits n).length ≤ 2 := by decide +kernel
  show (Lib.decDigits c.toNat).toArray.size ≤ 2
  rw [List.size_toArray]
  exact this _ (by omega)
theorem itoa_any (c : Int) (w : World) (h : 0 ≤ c ∧ c ≤ 31) : Calls Tryz.prog 74 #[.int .i64 c] w fun e w' => e = .returned (.string (decB c)) ∧ w' = w := by
  obtain ⟨n, rfl⟩ : ∃ n : Nat, c = n := ⟨c.toNat, by omega⟩
  exact Tryz.strconv_Itoa_small n (by omega) w
/-- a step as text -/
def stepB (s : ST) : ByteArray := if 0 < s.calls.length then ((⟨#[32, 94, 32]⟩ ++ brB s.calls) ++ ⟨#[32]⟩) ++ s.p.text else ⟨#[32]⟩ ++ s.p.text
/-- a step that may be -/
structure StOk (s : ST) : Prop where
  sh : Shorts s.calls
  ok : s.p.Okt
  sz : s.p.size ≤ 60
theorem stepB_size {s : ST} (h : StOk s) : (stepB s).size ≤ 190000000 := by
  have a := pt_size s.p.size s.p (Nat.le_refl _) h.ok
  have b := h.sh.br
  have c := h.sz
  have z1 : (⟨#[32, 94, 32]⟩ : ByteArray).size = 3 := rfl
  have z2 : (⟨#[32]⟩ : ByteArray).size = 1 := rfl
  unfold stepB
  split <;> simp only [ByteArray.size_append] <;> omega
set_option maxHeartbeats 4000000 in
set_option maxRecDepth 100000 in
theorem prStep_any (s : ST) (cv nv ev lv : Value) (w : World) (hs : StOk s) (hc : Row w cv s.calls.length (strs s.calls)) (hp : PtIs w s.p nv ev lv) :
    Calls Tryz.prog 77 #[.agg #[cv, .int .i64 s.p.kind, nv, ev, lv]] w fun x w' => x = .returned (.string (stepB s)) ∧ Below w.heap.size w w' := by
  have h1 := fun w' (hb : Below w.heap.size w w') => braces_any cv s.calls w' (hc.below hb) hs.sh
  have h2 := fun w' (hb : Below w.heap.size w w') => pat_any s.p nv ev lv w' (by have := hs.sz; omega) hs.ok (hp.moved hb)
  have hsb : stepB s = if 0 < s.calls.length then ((⟨#[32, 94, 32]⟩ ++ brB s.calls) ++ ⟨#[32]⟩) ++ s.p.text else ⟨#[32]⟩ ++ s.p.text := rfl
  have a := pt_size s.p.size s.p (Nat.le_refl _) hs.ok
  have b := hs.sh.br
  have c := hs.sz
  obtain ⟨o0, c0, rfl, -⟩ := hc
  obtain ⟨⟨o1, q1, rfl⟩, ⟨o3, q3, rfl⟩, ⟨o2, q2, rfl⟩⟩ := hp.form
  obtain ⟨n, hn⟩ : ∃ n, n = s.calls.length := ⟨_, rfl⟩
  obtain ⟨B, hB⟩ : ∃ B, B = brB s.calls := ⟨_, rfl⟩
  obtain ⟨t, ht⟩ : ∃ t, t = s.p.text := ⟨_, rfl⟩
  obtain ⟨k, hk⟩ : ∃ k, k = s.p.kind := ⟨_, rfl⟩
  obtain ⟨x1, hx1⟩ : ∃ k, k = s.p.names.length := ⟨_, rfl⟩
  obtain ⟨x2, hx2⟩ : ∃ k, k = s.p.ends.length := ⟨_, rfl⟩
  obtain ⟨x3, hx3⟩ : ∃ k, k = s.p.parts.length := ⟨_, rfl⟩
  rw [← hn, ← hB] at h1
  rw [← ht, ← hk, ← hx1, ← hx2, ← hx3] at h2
  rw [← hn, ← hB, ← ht] at hsb
  rw [← ht] at a
  rw [← hB] at b
  rw [← hn, ← hk, ← hx1, ← hx2, ← hx3]
  have HS := Lib.hid hsb
  have H1 := Lib.hid h1
  have H2 := Lib.hid h2
  have hu0 : ¬ 9223372036854775807 < 3 + B.size := by omega
  have hu1 : ¬ 9223372036854775807 < 3 + B.size + 1 := by omega
  have hu2 : ¬ 9223372036854775807 < 3 + B.size + 1 + t.size := by omega
  have hu3 : ¬ 9223372036854775807 < 1 + t.size := by omega
  clear hsb h1 h2 hn hB ht hk hx1 hx2 hx3 hp hs a b c
  by_cases hc : 0 < n
  · have d : decide (0 < n) = true := by simpa using hc
    have HX := Lib.hid (HS.out.trans (if_pos hc))
    clear HS hc
    obtain ⟨W, hW⟩ : ∃ W, W = w.alloc (.cells #[.slice o0 n c0, .int .i64 k, .slice o1 x1 q1, .slice o3 x2 q3, .slice o2 x3 q2] 66) := ⟨_, rfl⟩
    have hbW : Below w.heap.size w W := by rw [hW]; exact (Below.refl _ _).alloc (Nat.le_refl _) _
    have hbx : W.heap[w.heap.size]? = some (.cells #[.slice o0 n c0, .int .i64 k, .slice o1 x1 q1, .slice o3 x2 q3, .slice o2 x3 q2] 66 (0, 0)) := by rw [hW]; exact heap_alloc_new w _
    obtain ⟨ι, K, hne, hkb, hks⟩ := kept_family W
    have hcell : ∀ i, (K i).cell? ⟨w.heap.size, 0, none⟩ = some (.slice o0 n c0) ∧ (K i).cell? ⟨w.heap.size, 1, none⟩ = some (.int .i64 k) ∧ (K i).cell? ⟨w.heap.size, 2, none⟩ = some (.slice o1 x1 q1) ∧ (K i).cell? ⟨w.heap.size, 3, none⟩ = some (.slice o3 x2 q3) ∧ (K i).cell? ⟨w.heap.size, 4, none⟩ = some (.slice o2 x3 q2) := fun i => by
      have := bel_get (hkb i) hbx
      simp [World.cell?, this]
    have KB := Lib.hid hkb
    have kS := hks _ (Below.refl _ _).drew
    have HBW := Lib.hid hbW
    have HW := Lib.hid hW
    have HA := Lib.hid (fun i => calls_kept hkb hks (i := i) (H1.out (K i) (bel_then hbW (hkb i))))
    have HP := Lib.hid (fun i => calls_kept hkb hks (i := i) (H2.out (K i) (bel_then hbW (hkb i))))
    have j0 : ∀ i, (K i).cell? ⟨w.heap.size, 0, none⟩ = some (.slice o0 n c0) := fun i => (hcell i).1
    have j1 : ∀ i, (K i).cell? ⟨w.heap.size, 1, none⟩ = some (.int .i64 k) := fun i => (hcell i).2.1
    have j2 : ∀ i, (K i).cell? ⟨w.heap.size, 2, none⟩ = some (.slice o1 x1 q1) := fun i => (hcell i).2.2.1
    have j3 : ∀ i, (K i).cell? ⟨w.heap.size, 3, none⟩ = some (.slice o3 x2 q3) := fun i => (hcell i).2.2.2.1
    have j4 : ∀ i, (K i).cell? ⟨w.heap.size, 4, none⟩ = some (.slice o2 x3 q2) := fun i => (hcell i).2.2.2.2
    clear hW hbW hbx hkb hks hcell
    go_enter Tryz.func77, Tryz.ntmps77
    go_upto_region 2 with (fail)
    rw [← HW.out]
    refine region_kept K (by kernel_rfl) (by kernel_rfl) kS ?_
    repeat (go_big_quiet_step (with_reducible first | exact HA.out _ | exact HP.out _))
    refine wpQuiet_nil ?_
    rintro _ ⟨iw, rfl⟩
    have HB6 := Lib.hid (bel_then HBW.out (KB.out iw))
    go_wp2_with fail
    go_ret
    exact ⟨by rw [HX.out]; rfl, HB6.out⟩
  · have d : decide (0 < n) = false := by simpa using hc
    have HX := Lib.hid (HS.out.trans (if_neg hc))
    clear HS hc
    go_enter Tryz.func77, Tryz.ntmps77
    go_wp2_with fail
    refine (H2.out _ (bel_new (Below.refl _ _) _)).mono ?_
    rintro x w2 ⟨rfl, hb2⟩
    have HB2 := Lib.hid (bel_then (bel_new (Below.refl w.heap.size w) _) hb2)
    clear hb2
    go_wp2_with fail
    go_ret
    exact ⟨by rw [HX.out]; rfl, HB2.out⟩
end Go.Proofs.YtbanmggkfpnalaaGreatDoor

set_option linter.unusedVariables false
set_option linter.unusedSimpArgs false
namespace Go.Proofs.YtbanmggkfpnalaaGreatDoor
open Go.RowKit Ru

theorem two_world (k w : World) (o1 o2 : Obj) (h : Below w.heap.size w k) :
    Below w.heap.size w ((k.alloc o1).alloc o2) ∧ ((k.alloc o1).alloc o2).heap[k.heap.size]? = some o1 ∧ ((k.alloc o1).alloc o2).heap[k.heap.size + 1]? = some o2 := by
  have hs := h.size
  refine ⟨(h.alloc hs _).alloc (by simp; omega) _, ?_, ?_⟩
  · rw [Below.heap_alloc _ _ _ (by simp)]
    exact heap_alloc_new k _
  · have := heap_alloc_new (k.alloc o1) o2
    simpa using this
theorem range_getD {α : Type} (d : α) : ∀ l : List α, (List.range l.length).map (fun i => l.getD i d) = l := by
  intro l
  apply List.ext_getElem?
  intro i
  rw [List.getElem?_map]
  by_cases h : i < l.length
  · rw [List.getElem?_range h]; simp [List.getD, h]
  · rw [List.getElem?_eq_none (by simp; omega), List.getElem?_eq_none (by omega)]; rfl
theorem joinSteps_any (l : List ST) (q : Nat) (v : Value) (w : World) (hok : ∀ s ∈ l, StOk s) (hl : l.length ≤ 100) (hv : StsAre w v l)
    (hq0 : w.heap[q]? = some (.cells #[.string ⟨#[]⟩] 9 (0, 0))) (hq1 : w.heap[q + 1]? = some (.cells #[.func (Fn.func 77) #[] #[]] 112 (0, 0))) :
    Calls Tryz.prog 108 #[v, .pointer (some ⟨q + 1, 0, none⟩), .pointer (some ⟨q, 0, none⟩)] w fun e w' => e = .returned (.string (catB (l.map stepB))) ∧ Below w.heap.size w w' := by
  obtain ⟨o, cap, co, cn, cc, kf, no, nn, nc, eo, en, ec, lo, ln, lc, rfl, hall⟩ := hv.all
  have hsz : (catB (l.map stepB)).size ≤ 140737488355328 := by
    have := catB_le 190000000 (l.map stepB) (fun y hy => by
      obtain ⟨x, hx, rfl⟩ := List.mem_map.1 hy
      exact stepB_size (hok x hx))
    rw [List.length_map] at this
    have : 190000000 * l.length ≤ 190000000 * 100 := Nat.mul_le_mul_left _ hl
    omega
  have hr : (List.range l.length).map (fun i => (l.map stepB).getD i ⟨#[]⟩) = l.map stepB := by
    have := range_getD (⟨#[]⟩ : ByteArray) (l.map stepB)
    rwa [List.length_map] at this
  have key := joinedS_any q l.length o cap co cn cc kf no nn nc eo en ec lo ln lc (fun i => (l.map stepB).getD i ⟨#[]⟩) w (by omega) (fun i hi => by
      obtain ⟨_, _, _, b, off, ho, hb, c0, c1, c2, c3, c4⟩ := hall i l[i] (List.getElem?_eq_getElem hi)
      exact ⟨b, off, ho, hb, c0, c1, c2, c3, c4⟩) hq0 hq1 (fun i hi w' hb => by
      obtain ⟨r1, k1, p1, _⟩ := hall i l[i] (List.getElem?_eq_getElem hi)
      have := prStep_any l[i] _ _ _ _ w' (hok _ (List.getElem_mem hi)) (r1.below hb) (p1.moved hb)
      rw [← k1] at this
      have e : (l.map stepB).getD i ⟨#[]⟩ = stepB l[i] := by simp [List.getD, hi]
      simp only [e]
      exact this) (by rw [hr]; exact hsz)
  rw [hr] at key
  exact key
/-- a rule that may be -/
structure RuOk (r : RU) : Prop where
  cl : 0 ≤ r.cls ∧ r.cls ≤ 31
  ln : r.steps.length ≤ 100
  st : ∀ s ∈ r.steps, StOk s
/-- a rule as text -/
def ruleB (r : RU) : ByteArray := ((if r.free = true then (⟨#[114, 117, 108, 101, 32]⟩ ++ decB r.cls) ++ ⟨#[32, 102, 114, 101, 101]⟩ else ⟨#[114, 117, 108, 101, 32]⟩ ++ decB r.cls) ++ catB (r.steps.map stepB)) ++ ⟨#[10]⟩
theorem steps_size {r : RU} (h : RuOk r) : (catB (r.steps.map stepB)).size ≤ 19000000000 := by
  have := catB_le 190000000 (r.steps.map stepB) (fun y hy => by
    obtain ⟨x, hx, rfl⟩ := List.mem_map.1 hy
    exact stepB_size (h.st x hx))
  rw [List.length_map] at this
  have : 190000000 * r.steps.length ≤ 190000000 * 100 := Nat.mul_le_mul_left _ h.ln
  omega
theorem ruleB_size {r : RU} (h : RuOk r) : (ruleB r).size ≤ 19000000020 := by
  have a := steps_size h
  have b := decB_size h.cl
  have z1 : (⟨#[114, 117, 108, 101, 32]⟩ : ByteArray).size = 5 := rfl
  have z2 : (⟨#[32, 102, 114, 101, 101]⟩ : ByteArray).size = 5 := rfl
  have z3 : (⟨#[10]⟩ : ByteArray).size = 1 := rfl
  unfold ruleB
  split <;> simp only [ByteArray.size_append] <;> omega
set_option maxHeartbeats 4000000 in
set_option maxRecDepth 100000 in
theorem prRule_any (r : RU) (sv : Value) (w : World) (hr : RuOk r) (hs : StsAre w sv r.steps) :
    Calls Tryz.prog 38 #[.agg #[.int .i64 r.cls, .bool r.free, sv]] w fun x w' => x = .returned (.string (ruleB r)) ∧ Below w.heap.size w w' := by
  have h1 := fun w' => itoa_any r.cls w' hr.cl
  have h2 := fun q w' (hb : Below w.heap.size w w') => joinSteps_any r.steps q sv w' hr.st hr.ln (hs.moved hb)
  have a := steps_size hr
  have b := decB_size hr.cl
  have hrb : ruleB r = ((if r.free = true then (⟨#[114, 117, 108, 101, 32]⟩ ++ decB r.cls) ++ ⟨#[32, 102, 114, 101, 101]⟩ else ⟨#[114, 117, 108, 101, 32]⟩ ++ decB r.cls) ++ catB (r.steps.map stepB)) ++ ⟨#[10]⟩ := rfl
  obtain ⟨o, c, rfl⟩ := hs.form
  obtain ⟨n, hn⟩ : ∃ n, n = r.steps.length := ⟨_, rfl⟩
  obtain ⟨C, hC⟩ : ∃ C, C = catB (r.steps.map stepB) := ⟨_, rfl⟩
  obtain ⟨D, hD⟩ : ∃ D, D = decB r.cls := ⟨_, rfl⟩
  obtain ⟨k, hk⟩ : ∃ k, k = r.cls := ⟨_, rfl⟩
  obtain ⟨f, hf⟩ : ∃ f, f = r.free := ⟨_, rfl⟩
  rw [← hD, ← hk] at h1
  rw [← hn, ← hC] at h2
  rw [← hC] at a
  rw [← hD] at b
  rw [← hC, ← hD, ← hf] at hrb
  rw [← hn, ← hk, ← hf]
  have HR := Lib.hid hrb
  have H1 := Lib.hid h1
  have H2 := Lib.hid h2
  have HJ := Lib.hid (fun w' => mkJoinS_any w')
  clear h1 h2 hn hC hD hk hf hs hr hrb
  cases f with
  | true =>
    have hu0 : ¬ 9223372036854775807 < 5 + D.size := by omega
    have hu1 : ¬ 9223372036854775807 < 5 + D.size + 5 := by omega
    have hu2 : ¬ 9223372036854775807 < 5 + D.size + 5 + C.size := by omega
    have hu3 : ¬ 9223372036854775807 < 5 + D.size + 5 + C.size + 1 := by omega
    clear a b
    go_enter Tryz.func38, Tryz.ntmps38
    go_wp2_with fail
    refine (H1.out _).mono ?_
    rintro x w2 ⟨rfl, rfl⟩
    go_wp2_with fail
    refine (HJ.out _).mono ?_
    rintro x w2 ⟨rfl, rfl⟩
    obtain ⟨hb1, x0, x1⟩ := two_world (w.alloc (.cells #[.int .i64 k, .bool true, .slice o n c] 64)) w (.cells #[.string ⟨#[]⟩] 9) (.cells #[.func (Fn.func 77) #[] #[]] 112) (bel_new (Below.refl _ _) _)
    go_wp2_with fail
    refine (H2.out _ _ hb1 (by simpa using x0) (by simpa using x1)).mono ?_
    rintro x w3 ⟨rfl, hb3⟩
    have HB3 := Lib.hid (bel_then hb1 hb3)
    clear hb3 hb1 x0 x1
    go_wp2_with fail
    go_ret
    exact ⟨by rw [HR.out]; rfl, HB3.out⟩
  | false =>
    have hu0 : ¬ 9223372036854775807 < 5 + D.size := by omega
    have hu2 : ¬ 9223372036854775807 < 5 + D.size + C.size := by omega
    have hu3 : ¬ 9223372036854775807 < 5 + D.size + C.size + 1 := by omega
    clear a b
    go_enter Tryz.func38, Tryz.ntmps38
    go_wp2_with fail
    refine (H1.out _).mono ?_
    rintro x w2 ⟨rfl, rfl⟩
    go_wp2_with fail
    refine (HJ.out _).mono ?_
    rintro x w2 ⟨rfl, rfl⟩
    obtain ⟨hb1, x0, x1⟩ := two_world (w.alloc (.cells #[.int .i64 k, .bool false, .slice o n c] 64)) w (.cells #[.string ⟨#[]⟩] 9) (.cells #[.func (Fn.func 77) #[] #[]] 112) (bel_new (Below.refl _ _) _)
    go_wp2_with fail
    refine (H2.out _ _ hb1 (by simpa using x0) (by simpa using x1)).mono ?_
    rintro x w3 ⟨rfl, hb3⟩
    have HB3 := Lib.hid (bel_then hb1 hb3)
    clear hb3 hb1 x0 x1
    go_wp2_with fail
    go_ret
    exact ⟨by rw [HR.out]; rfl, HB3.out⟩
end Go.Proofs.YtbanmggkfpnalaaGreatDoor
