/- print.Re. -/
import Derived.Test.YtbanmggkfpnalaaGreatDoorPrSet
import Derived.Test.YtbanmggkfpnalaaGreatDoorGRefE
set_option linter.unusedVariables false
set_option linter.unusedSimpArgs false
namespace Go.Proofs.YtbanmggkfpnalaaGreatDoor
open Go.RowKit Ru

/-- a text, in brackets if it must be -/
def hold (t : ByteArray) (m : Bool) : ByteArray := if m = true then (⟨#[40]⟩ ++ t) ++ ⟨#[41]⟩ else t
theorem hold_size (t : ByteArray) (m : Bool) : (hold t m).size ≤ t.size + 2 := by
  unfold hold
  split
  · rw [ByteArray.size_append, ByteArray.size_append]; show 1 + _ + 1 ≤ _; omega
  · omega
/-- the text of a node, of its parts' kinds and texts -/
def nodeB (k : Int) (s : List (Int × Int)) (ks : List Int) (ts : List ByteArray) : ByteArray :=
  if k = 1 then ⟨#[40, 41]⟩
  else if k = 2 then setB s
  else if k = 3 then hold (ts.getD 0 ⟨#[]⟩) ([4].contains (ks.getD 0 0)) ++ hold (ts.getD 1 ⟨#[]⟩) ([4, 3].contains (ks.getD 1 0))
  else if k = 4 then (hold (ts.getD 0 ⟨#[]⟩) false ++ ⟨#[124]⟩) ++ hold (ts.getD 1 ⟨#[]⟩) ([4].contains (ks.getD 1 0))
  else if k = 5 then hold (ts.getD 0 ⟨#[]⟩) ([3, 4].contains (ks.getD 0 0)) ++ ⟨#[42]⟩
  else ⟨#[91, 93]⟩
namespace RE
mutual
/-- an expression as text -/
def text : RE → ByteArray
  | .mk k s l => nodeB k s (l.map kind) (texts l)
def texts : List RE → List ByteArray
  | [] => []
  | e :: l => text e :: texts l
end
theorem texts_map (l : List RE) : texts l = l.map text := by
  induction l with
  | nil => rw [texts]; rfl
  | cons a l ih => rw [texts, ih]; rfl
theorem text_eq (e : RE) : e.text = nodeB e.kind e.set (e.parts.map kind) (e.parts.map text) := by
  cases e with
  | mk k s l => rw [text, texts_map]; rfl
theorem prt_shp {e : RE} (h : e.prt = true) : e.shp = true := by rw [prt_eq, Bool.and_eq_true] at h; exact h.1
theorem prt_part {e p : RE} {i : Nat} (h : e.prt = true) (hp : e.parts[i]? = some p) : p.prt = true := by
  rw [prt_eq, Bool.and_eq_true] at h
  have all : ∀ (l : List RE), prtL l = true → ∀ p ∈ l, p.prt = true := by
    intro l
    induction l with
    | nil => intro _ p hp; simp at hp
    | cons a l ih =>
      intro h p hp
      rw [prtL_cons, Bool.and_eq_true] at h
      rcases List.mem_cons.1 hp with rfl | hp
      · exact h.1
      · exact ih h.2 p hp
  exact all _ h.2 p (List.mem_of_getElem? hp)
/-- the kinds, and what each has -/
theorem shp_cases {e : RE} (h : e.shp = true) : (e.kind = 0) ∨ (e.kind = 1) ∨ (e.kind = 2 ∧ e.set.length ≤ 20 ∧ mayB e.set = true) ∨ (e.kind = 3 ∧ e.parts.length = 2) ∨ (e.kind = 4 ∧ e.parts.length = 2) ∨ (e.kind = 5 ∧ e.parts.length = 1) := by
  unfold shp at h
  by_cases k2 : e.kind = 2
  · rw [if_pos k2] at h; simp at h; exact .inr (.inr (.inl ⟨k2, h.2.1, h.2.2.1⟩))
  · rw [if_neg k2] at h
    split at h
    · cases h
    · split at h
      · omega
      · split at h
        · rename_i k5; simp at h; omega
        · split at h
          · rename_i k34; simp at h; omega
          · cases h
end RE
theorem may_rok {l : List (Int × Int)} (h : mayB l = true) : ∀ x ∈ l, ROK x := by
  intro x hx
  obtain ⟨i, hi, rfl⟩ := List.getElem_of_mem hx
  have := ((mayB_iff l).1 h i hi).1
  have e : l.getD i (0, 0) = l[i] := by simp [List.getD, hi]
  rw [e] at this
  unfold okR at this
  simp [scal] at this
  unfold ROK
  omega
theorem re_size : ∀ (N : Nat) (e : RE), e.size ≤ N → e.prt = true → e.text.size ≤ 500 * e.size := by
  intro N
  induction N with
  | zero => intro e h; have := e.size_pos; omega
  | succ N ih =>
    intro e hs hp
    have hpos := e.size_pos
    have hpart : ∀ (i : Nat) (p : RE), e.parts[i]? = some p → p.text.size ≤ 500 * p.size := fun i p hip => ih p (by have := RE.size_part hip; omega) (RE.prt_part hp hip)
    have hsz : e.size = RE.sizes e.parts + 1 := by cases e; rw [RE.size_mk]; rfl
    rw [RE.text_eq]
    rcases RE.shp_cases (RE.prt_shp hp) with k | k | ⟨k, h1, h2⟩ | ⟨k, h1⟩ | ⟨k, h1⟩ | ⟨k, h1⟩
    all_goals (unfold nodeB; rw [k])
    · simp; show 2 ≤ _; omega
    · simp; show 2 ≤ _; omega
    · simp
      have := setB_size (may_rok h2)
      omega
    · match hl : e.parts, h1 with
      | [a, b], _ =>
        rw [hl] at hpart hsz
        have ha := hpart 0 a rfl
        have hb := hpart 1 b rfl
        rw [RE.sizes_cons, RE.sizes_cons, RE.sizes_nil] at hsz
        have x := hold_size a.text ([4].contains a.kind)
        have y := hold_size b.text ([4, 3].contains b.kind)
        simp at x y ⊢
        omega
    · match hl : e.parts, h1 with
      | [a, b], _ =>
        rw [hl] at hpart hsz
        have ha := hpart 0 a rfl
        have hb := hpart 1 b rfl
        rw [RE.sizes_cons, RE.sizes_cons, RE.sizes_nil] at hsz
        have x := hold_size a.text false
        have y := hold_size b.text ([4].contains b.kind)
        simp [ByteArray.size_append] at x y ⊢
        have : (⟨#[124]⟩ : ByteArray).size = 1 := rfl
        omega
    · match hl : e.parts, h1 with
      | [a], _ =>
        rw [hl] at hpart hsz
        have ha := hpart 0 a rfl
        rw [RE.sizes_cons, RE.sizes_nil] at hsz
        have x := hold_size a.text ([3, 4].contains a.kind)
        simp [ByteArray.size_append] at x ⊢
        have : (⟨#[42]⟩ : ByteArray).size = 1 := rfl
        omega
theorem held_any (t : ByteArray) (m : Bool) (w : World) (ht : t.size ≤ 1000000000) : Calls Tryz.prog 63 #[.string t, .bool m] w fun e w' => e = .returned (.string (hold t m)) ∧ w' = w := by
  have hu1 : ¬ 9223372036854775807 < 1 + t.size := by omega
  have hu2 : ¬ 9223372036854775807 < 1 + t.size + 1 := by omega
  clear ht
  cases m with
  | true =>
    go_enter Tryz.func63, Tryz.ntmps63
    go_wp2_with fail
    go_ret
    exact ⟨rfl, rfl⟩
  | false =>
    go_enter Tryz.func63, Tryz.ntmps63
    go_wp2_with fail
    go_ret
    exact ⟨rfl, rfl⟩
/-- slices.Contains of whole numbers -/
theorem containsI_any (zs : List Int) (v : Value) (x : Int) (w : World) (hr : Row w v zs.length (zs.map (Value.int .i64))) (hn : zs.length ≤ 1000) :
    Calls Tryz.prog 64 #[v, .int .i64 x] w fun e w' => e = .returned (.bool (zs.contains x)) ∧ w' = w := by
  obtain ⟨o, c, rfl, hc, hm, hrr⟩ := hr
  rcases hrr with ⟨h0, -⟩ | ⟨b, off, rfl, hlt, hcell⟩
  · have hl0 : zs = [] := List.eq_nil_of_length_eq_zero h0
    subst hl0
    exact Tryz.slices_Contains_int_empty o c x w
  · refine (Tryz.slices_Contains_int b off _ c zs x w (Nat.le_refl _) (by omega) (fun j hj => ?_)).mono ?_
    · exact hcell j _ (by simp [List.getD, hj])
    · rintro e w' ⟨rfl, rfl⟩
      rw [List.take_length]
      exact ⟨rfl, rfl⟩
end Go.Proofs.YtbanmggkfpnalaaGreatDoor

set_option linter.unusedVariables false
set_option linter.unusedSimpArgs false
namespace Go.Proofs.YtbanmggkfpnalaaGreatDoor
open Go.RowKit Ru

theorem cell3_of {w : World} {p : Nat} {a b c : Value} {t : TypeId} (h : w.heap[p]? = some (.cells #[a, b, c] t (0, 0))) : w.cell? ⟨p, 0, none⟩ = some a ∧ w.cell? ⟨p, 1, none⟩ = some b ∧ w.cell? ⟨p, 2, none⟩ = some c := by
  simp [World.cell?, h]
/-- what expression gives at a tree -/
def ExIH (N : Nat) : Prop := ∀ (e : RE) (sv lv : Value) (w : World), e.size ≤ N → e.size ≤ 1000 → e.prt = true → ReIs w e sv lv → TZ w →
  Calls Tryz.prog 27 #[.agg #[.int .i64 e.kind, sv, lv]] w fun x w' => x = .returned (.string e.text) ∧ Below w.heap.size w w'
set_option maxHeartbeats 4000000 in
set_option maxRecDepth 100000 in
theorem exPart_any (N : Nat) (ih : ExIH N) (e p : RE) (i q : Nat) (sv lv kv : Value) (zs : List Int) (w : World) (hp : e.parts[i]? = some p) (hpl : e.parts.length ≤ 1000) (hs : p.size ≤ N) (hs2 : p.size ≤ 1000) (hpr : p.prt = true) (hr : ReIs w e sv lv) (hT : TZ w)
    (hq : w.heap[q]? = some (.cells #[.int .i64 e.kind, sv, lv] 25 (0, 0))) (hk : Row w kv zs.length (zs.map (Value.int .i64))) (hz : zs.length ≤ 1000) :
    Calls Tryz.prog 62 #[.int .i64 i, kv, .pointer (some ⟨q, 0, none⟩)] w fun x w' => x = .returned (.string (hold p.text (zs.contains p.kind))) ∧ Below w.heap.size w w' := by
  obtain ⟨b, off, cap, s', l', rfl, hb, z0, z1, z2, hpi⟩ := hr.part hp
  have hi : i < e.parts.length := (List.getElem?_eq_some_iff.1 hp).1
  obtain ⟨n, hn⟩ : ∃ n, n = e.parts.length := ⟨_, rfl⟩
  obtain ⟨-, -, c2⟩ := cell3_of hq
  rw [← hn] at c2 hi hpl
  obtain ⟨ι, K, hne, hkb, hks⟩ := kept_family w
  have KB := Lib.hid hkb
  have kS := hks _ (Below.refl _ _).drew
  have hsz := re_size p.size p (Nat.le_refl _) hpr
  obtain ⟨t, ht⟩ : ∃ t, t = p.text := ⟨_, rfl⟩
  obtain ⟨k, hkk⟩ : ∃ k, k = p.kind := ⟨_, rfl⟩
  obtain ⟨m, hm⟩ : ∃ m, m = zs.contains p.kind := ⟨_, rfl⟩
  have h1 := fun i => ih p s' l' (K i) hs hs2 hpr (hpi.moved (hkb i)) (hT.moved (hkb i))
  have h2 := fun i => containsI_any zs kv p.kind (K i) (hk.below (hkb i)) hz
  rw [← ht, ← hkk] at h1
  rw [← hkk] at z0
  rw [← hm, ← hkk] at h2
  rw [← ht] at hsz
  rw [← hm, ← ht]
  have h3 := fun i => held_any t m (K i) (by omega)
  have HX := Lib.hid (fun i => calls_kept hkb hks (i := i) (h1 i))
  have HC := Lib.hid (fun i => calls_kept hkb hks (i := i) ((h2 i).mono (fun e w' h => ⟨h.1, by rw [h.2]; exact Below.refl _ _⟩)))
  have HH := Lib.hid (fun i => calls_kept hkb hks (i := i) ((h3 i).mono (fun e w' h => ⟨h.1, by rw [h.2]; exact Below.refl _ _⟩)))
  have j0 : ∀ i, (K i).cell? ⟨q, 2, none⟩ = some (.slice (some ⟨b, off, none⟩) n cap) := fun i => cell_later (hkb i) c2
  have j1 : ∀ ii, (K ii).cell? ⟨b, off + i * 3, none⟩ = some (.int .i64 k) := fun i => cell_later (hkb i) z0
  have j2 : ∀ ii, (K ii).cell? ⟨b, off + i * 3 + 1, none⟩ = some s' := fun i => cell_later (hkb i) z1
  have j3 : ∀ ii, (K ii).cell? ⟨b, off + i * 3 + 2, none⟩ = some l' := fun i => cell_later (hkb i) z2
  obtain ⟨⟨o1, q1, rfl⟩, ⟨o2, q2, rfl⟩⟩ := hpi.form
  rw [← hn] at *
  have hi1 : (0 : Int) ≤ (i : Int) := by omega
  have hi2 : (i : Int) < (n : Int) := by omega
  have hi3 : ((i : Int)).toNat = i := by simp
  clear hkb hks h1 h2 h3 ht hkk hm hsz z0 z1 z2 c2 hq hk hr hT hpi hp hpr hs hs2 hz ih hn
  go_enter Tryz.func62, Tryz.ntmps62
  go_upto_region 1 with (fail)
  refine region_kept K (by kernel_rfl) (by kernel_rfl) kS ?_
  repeat (go_big_quiet_step (with_reducible first | exact HX.out _ | exact HC.out _ | exact HH.out _))
  refine wpQuiet_nil ?_
  rintro _ ⟨iw, rfl⟩
  have HB6 := Lib.hid (KB.out iw)
  go_wp2_with fail
  go_ret
  exact ⟨rfl, HB6.out⟩
/-- a row of numbers in a new block -/
theorem rowI_new (w : World) (cs : Array Value) (b : Nat) (hb : b = w.heap.size) (zs : List Int) (n : Nat) (hcs : cs = (zs.map (Value.int .i64)).toArray) (h : zs.length = n) (hn : n ≤ 1000) : Row (w.alloc (.cells cs 3)) (.slice (some ⟨b, 0, none⟩) n n) zs.length (zs.map (Value.int .i64)) := by
  subst h
  subst hb
  subst hcs
  refine ⟨_, _, rfl, Nat.le_refl _, by unfold maxLen; omega, .inr ⟨w.heap.size, 0, rfl, by simp, fun j u hu => ?_⟩⟩
  rw [Nat.zero_add, World.cell?_alloc_mark]
  simpa using hu
theorem rowI_nil (w : World) : Row w (.slice none 0 0) ([] : List Int).length (([] : List Int).map (Value.int .i64)) := ⟨none, 0, rfl, Nat.le_refl _, by decide, .inl ⟨rfl, fun _ => rfl⟩⟩
theorem box_kept {w w' : World} {o : Obj} (hb : Below (w.alloc o).heap.size (w.alloc o) w') : w'.heap[w.heap.size]? = some o := by
  rw [hb.block _ (by simp)]
  exact heap_alloc_new w o
set_option maxHeartbeats 8000000 in
set_option maxRecDepth 100000 in
theorem expr_step (N : Nat) (ih : ExIH N) : ExIH (N + 1) := by
  intro e sv lv w hs hs2 hpr hr hT
  have hpart : ∀ (i : Nat) (iv : Int) (p : RE) (zs : List Int) (kv : Value) (w' : World), iv = (i : Int) → e.parts[i]? = some p → e.parts.length ≤ 1000 → zs.length ≤ 1000 → Below w.heap.size w w' → w'.heap[w.heap.size]? = some (.cells #[.int .i64 e.kind, sv, lv] 25 (0, 0)) → Row w' kv zs.length (zs.map (Value.int .i64)) →
      Calls Tryz.prog 62 #[.int .i64 iv, kv, .pointer (some ⟨w.heap.size, 0, none⟩)] w' fun x w'' => x = .returned (.string (hold p.text (zs.contains p.kind))) ∧ Below w'.heap.size w' w'' := fun i iv p zs kv w' hiv hp hpl hz hb hq hk => hiv ▸
    exPart_any N ih e p i w.heap.size sv lv kv zs w' hp hpl (by have := RE.size_part hp; omega) (by have := RE.size_part hp; omega) (RE.prt_part hpr hp) (hr.moved hb) (hT.moved hb) hq hk hz
  have hte := RE.text_eq e
  have hsz := re_size e.size e (Nat.le_refl _) hpr
  have hset := hr.set
  obtain ⟨⟨o1, q1, rfl⟩, ⟨o2, q2, rfl⟩⟩ := hr.form
  obtain ⟨t, ht⟩ : ∃ t, t = e.text := ⟨_, rfl⟩
  rw [← ht] at hte hsz ⊢
  rcases RE.shp_cases (RE.prt_shp hpr) with k | k | ⟨k, h1, h2⟩ | ⟨k, h1⟩ | ⟨k, h1⟩ | ⟨k, h1⟩
  · rw [k] at hte ⊢
    obtain ⟨a, ha⟩ : ∃ a, a = e.set.length := ⟨_, rfl⟩
    obtain ⟨b, hb⟩ : ∃ b, b = e.parts.length := ⟨_, rfl⟩
    rw [← ha, ← hb]
    have HX := Lib.hid (show t = ⟨#[91, 93]⟩ by rw [hte]; rfl)
    clear hpart hte hsz hset hs hs2 hpr hr hT ht k ha hb ih
    go_enter Tryz.func27, Tryz.ntmps27
    go_wp2_with fail
    go_ret
    exact ⟨by rw [HX.out]; rfl, by repeat (first | exact Below.refl _ _ | (refine bel_new ?_ _))⟩
  · rw [k] at hte ⊢
    obtain ⟨a, ha⟩ : ∃ a, a = e.set.length := ⟨_, rfl⟩
    obtain ⟨b, hb⟩ : ∃ b, b = e.parts.length := ⟨_, rfl⟩
    rw [← ha, ← hb]
    have HX := Lib.hid (show t = ⟨#[40, 41]⟩ by rw [hte]; rfl)
    clear hpart hte hsz hset hs hs2 hpr hr hT ht k ha hb ih
    go_enter Tryz.func27, Tryz.ntmps27
    go_wp2_with fail
    go_ret
    exact ⟨by rw [HX.out]; rfl, by repeat (first | exact Below.refl _ _ | (refine bel_new ?_ _))⟩
  · have hps := fun w' (hb : Below w.heap.size w w') => prSet_any e.set _ w' (hset.below hb) (may_rok h2) (by omega) (hT.moved hb)
    rw [k] at hte ⊢
    have HX := Lib.hid (show t = setB e.set by rw [hte]; rfl)
    obtain ⟨b, hb⟩ : ∃ b, b = e.parts.length := ⟨_, rfl⟩
    obtain ⟨a, ha⟩ : ∃ a, a = e.set.length := ⟨_, rfl⟩
    rw [← ha] at hps
    rw [← ha, ← hb]
    have HP := Lib.hid hps
    clear hpart hte hsz hset hs hs2 hpr hr hT ht k ha hb ih hps h1 h2
    go_enter Tryz.func27, Tryz.ntmps27
    go_wp2_with fail
    refine (HP.out _ (bel_new (Below.refl _ _) _)).mono ?_
    rintro x w2 ⟨rfl, hb2⟩
    have HB2 := Lib.hid (bel_then (bel_new (Below.refl w.heap.size w) _) hb2)
    clear hb2
    go_wp2_with fail
    go_ret
    exact ⟨by rw [HX.out]; rfl, HB2.out⟩
  · match hl : e.parts, h1 with
    | [x, y], _ =>
      have g0 := fun kv w' hb => hpart 0 0 x [4] kv w' rfl (by rw [hl]; rfl) (by rw [hl]; simp) (by decide) hb
      have g1 := fun kv w' hb => hpart 1 1 y [4, 3] kv w' rfl (by rw [hl]; rfl) (by rw [hl]; simp) (by decide) hb
      rw [hl] at hte
      have hln : e.parts.length = 2 := by rw [hl]; rfl
      rw [k] at hte ⊢
      simp only [k, hl, List.length_cons, List.length_nil, Nat.zero_add, Nat.reduceAdd] at g0 g1 ⊢
      obtain ⟨a, ha⟩ : ∃ a, a = e.set.length := ⟨_, rfl⟩
      rw [← ha] at g0 g1 ⊢
      have hteq : t = hold x.text ([4].contains x.kind) ++ hold y.text ([4, 3].contains y.kind) := by rw [hte]; rfl
      obtain ⟨A, hA⟩ : ∃ z, z = hold x.text ([4].contains x.kind) := ⟨_, rfl⟩
      obtain ⟨C, hC⟩ : ∃ z, z = hold y.text ([4, 3].contains y.kind) := ⟨_, rfl⟩
      rw [← hA] at g0
      rw [← hC] at g1
      rw [← hA, ← hC] at hteq
      have G0 := Lib.hid (fun kv w' (hb : Below (w.alloc (.cells #[.int .i64 3, .slice o1 a q1, .slice o2 2 q2] 25)).heap.size (w.alloc (.cells #[.int .i64 3, .slice o1 a q1, .slice o2 2 q2] 25)) w') hk => g0 kv w' (bel_then ((Below.refl w.heap.size w).alloc (Nat.le_refl _) _) hb) (box_kept hb) hk)
      have G1 := Lib.hid (fun kv w' (hb : Below (w.alloc (.cells #[.int .i64 3, .slice o1 a q1, .slice o2 2 q2] 25)).heap.size (w.alloc (.cells #[.int .i64 3, .slice o1 a q1, .slice o2 2 q2] 25)) w') hk => g1 kv w' (bel_then ((Below.refl w.heap.size w).alloc (Nat.le_refl _) _) hb) (box_kept hb) hk)
      have hts : t.size ≤ 500000 := by omega
      rw [hteq] at hts
      simp only [ByteArray.size_append] at hts
      have hu0 : ¬ 9223372036854775807 < A.size + C.size := by omega
      have HX := Lib.hid hteq
      clear hpart hte hsz hset hs hs2 hpr hr hT ht k ha hl hln ih hteq hts g0 g1 hA hC
      go_enter Tryz.func27, Tryz.ntmps27
      go_wp2_with fail
      refine (G0.out _ _ ((Below.refl _ _).alloc (Nat.le_refl _) _) (rowI_new _ _ _ (by simp) [4] 1 rfl rfl (by decide))).mono ?_
      rintro z w3 ⟨rfl, hb3⟩
      have HB3 := Lib.hid (bel_then (show Below (w.alloc (.cells #[.int .i64 3, .slice o1 a q1, .slice o2 2 q2] 25)).heap.size (w.alloc (.cells #[.int .i64 3, .slice o1 a q1, .slice o2 2 q2] 25)) _ from ((Below.refl _ _).alloc (Nat.le_refl _) _)) hb3)
      clear hb3
      go_wp2_with fail
      refine (G1.out _ _ (HB3.out.alloc HB3.out.size _) (rowI_new _ _ _ (by simp) [4, 3] 2 rfl rfl (by decide))).mono ?_
      rintro z w4 ⟨rfl, hb4⟩
      have HB4 := Lib.hid (bel_then (show Below (w.alloc (.cells #[.int .i64 3, .slice o1 a q1, .slice o2 2 q2] 25)).heap.size (w.alloc (.cells #[.int .i64 3, .slice o1 a q1, .slice o2 2 q2] 25)) _ from (HB3.out.alloc HB3.out.size _)) hb4)
      clear hb4
      go_wp2_with fail
      go_ret
      exact ⟨by rw [HX.out]; rfl, bel_then ((Below.refl w.heap.size w).alloc (Nat.le_refl _) _) HB4.out⟩
  · match hl : e.parts, h1 with
    | [x, y], _ =>
      have g0 := fun kv w' hb => hpart 0 0 x [] kv w' rfl (by rw [hl]; rfl) (by rw [hl]; simp) (by decide) hb
      have g1 := fun kv w' hb => hpart 1 1 y [4] kv w' rfl (by rw [hl]; rfl) (by rw [hl]; simp) (by decide) hb
      rw [hl] at hte
      have hln : e.parts.length = 2 := by rw [hl]; rfl
      rw [k] at hte ⊢
      simp only [k, hl, List.length_cons, List.length_nil, Nat.zero_add, Nat.reduceAdd] at g0 g1 ⊢
      obtain ⟨a, ha⟩ : ∃ a, a = e.set.length := ⟨_, rfl⟩
      rw [← ha] at g0 g1 ⊢
      have hteq : t = (hold x.text (([] : List Int).contains x.kind) ++ ⟨#[124]⟩) ++ hold y.text ([4].contains y.kind) := by rw [hte]; rfl
      obtain ⟨A, hA⟩ : ∃ z, z = hold x.text (([] : List Int).contains x.kind) := ⟨_, rfl⟩
      obtain ⟨C, hC⟩ : ∃ z, z = hold y.text ([4].contains y.kind) := ⟨_, rfl⟩
      rw [← hA] at g0
      rw [← hC] at g1
      rw [← hA, ← hC] at hteq
      have G0 := Lib.hid (fun kv w' (hb : Below (w.alloc (.cells #[.int .i64 4, .slice o1 a q1, .slice o2 2 q2] 25)).heap.size (w.alloc (.cells #[.int .i64 4, .slice o1 a q1, .slice o2 2 q2] 25)) w') hk => g0 kv w' (bel_then ((Below.refl w.heap.size w).alloc (Nat.le_refl _) _) hb) (box_kept hb) hk)
      have G1 := Lib.hid (fun kv w' (hb : Below (w.alloc (.cells #[.int .i64 4, .slice o1 a q1, .slice o2 2 q2] 25)).heap.size (w.alloc (.cells #[.int .i64 4, .slice o1 a q1, .slice o2 2 q2] 25)) w') hk => g1 kv w' (bel_then ((Below.refl w.heap.size w).alloc (Nat.le_refl _) _) hb) (box_kept hb) hk)
      have hts : t.size ≤ 500000 := by omega
      rw [hteq] at hts
      simp only [ByteArray.size_append] at hts
      have hu0 : ¬ 9223372036854775807 < A.size + 1 := by omega
      have hu1 : ¬ 9223372036854775807 < A.size + 1 + C.size := by omega
      have HX := Lib.hid hteq
      clear hpart hte hsz hset hs hs2 hpr hr hT ht k ha hl hln ih hteq hts g0 g1 hA hC
      go_enter Tryz.func27, Tryz.ntmps27
      go_wp2_with fail
      refine (G0.out _ _ (Below.refl _ _) (rowI_nil _)).mono ?_
      rintro z w3 ⟨rfl, hb3⟩
      have HB3 := Lib.hid (bel_then (show Below (w.alloc (.cells #[.int .i64 4, .slice o1 a q1, .slice o2 2 q2] 25)).heap.size (w.alloc (.cells #[.int .i64 4, .slice o1 a q1, .slice o2 2 q2] 25)) _ from (Below.refl _ _)) hb3)
      clear hb3
      go_wp2_with fail
      refine (G1.out _ _ (HB3.out.alloc HB3.out.size _) (rowI_new _ _ _ (by simp) [4] 1 rfl rfl (by decide))).mono ?_
      rintro z w4 ⟨rfl, hb4⟩
      have HB4 := Lib.hid (bel_then (show Below (w.alloc (.cells #[.int .i64 4, .slice o1 a q1, .slice o2 2 q2] 25)).heap.size (w.alloc (.cells #[.int .i64 4, .slice o1 a q1, .slice o2 2 q2] 25)) _ from (HB3.out.alloc HB3.out.size _)) hb4)
      clear hb4
      go_wp2_with fail
      go_ret
      exact ⟨by rw [HX.out]; rfl, bel_then ((Below.refl w.heap.size w).alloc (Nat.le_refl _) _) HB4.out⟩
  · match hl : e.parts, h1 with
    | [x], _ =>
      have g0 := fun kv w' hb => hpart 0 0 x [3, 4] kv w' rfl (by rw [hl]; rfl) (by rw [hl]; simp) (by decide) hb
      rw [hl] at hte
      have hln : e.parts.length = 1 := by rw [hl]; rfl
      rw [k] at hte ⊢
      simp only [k, hl, List.length_cons, List.length_nil, Nat.zero_add, Nat.reduceAdd] at g0 ⊢
      obtain ⟨a, ha⟩ : ∃ a, a = e.set.length := ⟨_, rfl⟩
      rw [← ha] at g0 ⊢
      have hteq : t = hold x.text ([3, 4].contains x.kind) ++ ⟨#[42]⟩ := by rw [hte]; rfl
      obtain ⟨A, hA⟩ : ∃ z, z = hold x.text ([3, 4].contains x.kind) := ⟨_, rfl⟩
      rw [← hA] at g0
      rw [← hA] at hteq
      have G0 := Lib.hid (fun kv w' (hb : Below (w.alloc (.cells #[.int .i64 5, .slice o1 a q1, .slice o2 1 q2] 25)).heap.size (w.alloc (.cells #[.int .i64 5, .slice o1 a q1, .slice o2 1 q2] 25)) w') hk => g0 kv w' (bel_then ((Below.refl w.heap.size w).alloc (Nat.le_refl _) _) hb) (box_kept hb) hk)
      have hts : t.size ≤ 500000 := by omega
      rw [hteq] at hts
      simp only [ByteArray.size_append] at hts
      have hu0 : ¬ 9223372036854775807 < A.size + 1 := by omega
      have HX := Lib.hid hteq
      clear hpart hte hsz hset hs hs2 hpr hr hT ht k ha hl hln ih hteq hts g0 hA
      go_enter Tryz.func27, Tryz.ntmps27
      go_wp2_with fail
      refine (G0.out _ _ ((Below.refl _ _).alloc (Nat.le_refl _) _) (rowI_new _ _ _ (by simp) [3, 4] 2 rfl rfl (by decide))).mono ?_
      rintro z w3 ⟨rfl, hb3⟩
      have HB3 := Lib.hid (bel_then (show Below (w.alloc (.cells #[.int .i64 5, .slice o1 a q1, .slice o2 1 q2] 25)).heap.size (w.alloc (.cells #[.int .i64 5, .slice o1 a q1, .slice o2 1 q2] 25)) _ from ((Below.refl _ _).alloc (Nat.le_refl _) _)) hb3)
      clear hb3
      go_wp2_with fail
      go_ret
      exact ⟨by rw [HX.out]; rfl, bel_then ((Below.refl w.heap.size w).alloc (Nat.le_refl _) _) HB3.out⟩
theorem expr_any (e : RE) (sv lv : Value) (w : World) (hs : e.size ≤ 1000) (hpr : e.prt = true) (hr : ReIs w e sv lv) (hT : TZ w) :
    Calls Tryz.prog 27 #[.agg #[.int .i64 e.kind, sv, lv]] w fun x w' => x = .returned (.string e.text) ∧ Below w.heap.size w w' := by
  have : ∀ N, ExIH N := by
    intro N
    induction N with
    | zero => intro e sv lv w h; have := e.size_pos; omega
    | succ N ih => exact expr_step N ih
  exact this e.size e sv lv w (Nat.le_refl _) hs hpr hr hT
end Go.Proofs.YtbanmggkfpnalaaGreatDoor

set_option linter.unusedVariables false
set_option linter.unusedSimpArgs false
namespace Go.Proofs.YtbanmggkfpnalaaGreatDoor
open Go.RowKit Ru

theorem may_prt {e : RE} (h : e.may = true) : e.size ≤ 60 ∧ e.prt = true := by
  have := ((RE.vis_both e.size e (Nat.le_refl _) 0 1).1).1 h
  exact ⟨by omega, this.2.2⟩
/-- what Re gives -/
def reP (e : RE) : ByteArray := if e.may = true then e.text else ⟨#[]⟩
set_option maxHeartbeats 4000000 in
set_option maxRecDepth 100000 in
theorem prRe_any (e : RE) (sv lv : Value) (w : World) (h : ReIs w e sv lv) (hf : e.Fit) (hT : TZ w) :
    Calls Tryz.prog 11 #[.agg #[.int .i64 e.kind, sv, lv]] w fun x w' => x = .returned (.string (reP e)) ∧ Below w.heap.size w w' := by
  have hm := fun w' (hb : Below w.heap.size w w') => reMay_any e sv lv w' (h.moved hb) hf
  have hx := fun (hm : e.may = true) w' (hb : Below w.heap.size w w') => expr_any e sv lv w' (by have := may_prt hm; omega) (may_prt hm).2 (h.moved hb) (hT.moved hb)
  have hp : reP e = if e.may = true then e.text else ⟨#[]⟩ := rfl
  obtain ⟨⟨o1, q1, rfl⟩, ⟨o2, q2, rfl⟩⟩ := h.form
  obtain ⟨m, hmm⟩ : ∃ m, m = e.may := ⟨_, rfl⟩
  rw [← hmm] at hm hx hp
  obtain ⟨k, hk⟩ : ∃ k, k = e.kind := ⟨_, rfl⟩
  obtain ⟨a, ha⟩ : ∃ a, a = e.set.length := ⟨_, rfl⟩
  obtain ⟨b, hb⟩ : ∃ b, b = e.parts.length := ⟨_, rfl⟩
  rw [← hk, ← ha, ← hb] at hm hx ⊢
  have HM := Lib.hid hm
  have HX := Lib.hid hx
  have HP := Lib.hid hp
  clear hm hx hp hmm hk ha hb h hT hf
  cases m with
  | false =>
    go_enter Tryz.func11, Tryz.ntmps11
    go_wp2_with fail
    refine (HM.out _ (bel_new (Below.refl _ _) _)).mono ?_
    rintro x w2 ⟨rfl, hb2⟩
    have HB2 := Lib.hid (bel_then (bel_new (Below.refl w.heap.size w) _) hb2)
    clear hb2
    go_wp2_with fail
    go_ret
    exact ⟨by rw [HP.out]; rfl, HB2.out⟩
  | true =>
    go_enter Tryz.func11, Tryz.ntmps11
    go_wp2_with fail
    refine (HM.out _ (bel_new (Below.refl _ _) _)).mono ?_
    rintro x w2 ⟨rfl, hb2⟩
    have HB2 := Lib.hid (bel_then (bel_new (Below.refl w.heap.size w) _) hb2)
    obtain ⟨c0, c1, c2⟩ := cell3_of (box_kept hb2)
    clear hb2
    go_wp2_with fail
    refine (HX.out trivial _ HB2.out).mono ?_
    rintro x w3 ⟨rfl, hb3⟩
    have HB3 := Lib.hid (bel_then HB2.out hb3)
    clear hb3
    go_wp2_with fail
    go_ret
    exact ⟨by rw [HP.out]; rfl, HB3.out⟩
end Go.Proofs.YtbanmggkfpnalaaGreatDoor
