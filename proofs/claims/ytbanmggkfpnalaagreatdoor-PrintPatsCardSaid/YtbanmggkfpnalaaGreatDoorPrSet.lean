/- print.Set. -/
import Derived.Test.YtbanmggkfpnalaaGreatDoorPrJoin
set_option linter.unusedVariables false
set_option linter.unusedSimpArgs false
namespace Go.Proofs.YtbanmggkfpnalaaGreatDoor
open Go.RowKit Ru

/-- a range of runes -/
def ROK (x : Int × Int) : Prop := (0 ≤ x.1 ∧ x.1 ≤ 1114111) ∧ (0 ≤ x.2 ∧ x.2 ≤ 1114111)
/-- a range as text -/
def rngB (x : Int × Int) : ByteArray := if x.1 = x.2 then letB x.1 else (letB x.1 ++ ⟨#[45]⟩) ++ letB x.2
/-- a set as text -/
def setB (l : List (Int × Int)) : ByteArray := if l.length = 1 ∧ (l.getD 0 (0, 0)).1 = (l.getD 0 (0, 0)).2 then letB (l.getD 0 (0, 0)).1 else (⟨#[91]⟩ ++ catB (l.map rngB)) ++ ⟨#[93]⟩
theorem hexU_size {r : Int} (h0 : 0 ≤ r) (h1 : r ≤ 1114111) : (hexU r.toNat).size ≤ 6 := by
  show (Lib.toUpperA (hexN r.toNat)).toArray.size ≤ 6
  rw [List.size_toArray]
  have := hexN_len 5 r.toNat (by have : r.toNat < 16777216 := by omega
                                 simpa using this)
  simp only [Lib.toUpperA, List.length_map]
  omega
theorem letB_size {r : Int} (h0 : 0 ≤ r) (h1 : r ≤ 1114111) : (letB r).size ≤ 10 := by
  unfold letB
  split
  · show 1 ≤ 10; decide
  · have := hexU_size h0 h1
    rw [ByteArray.size_append, ByteArray.size_append]
    show 3 + _ + 1 ≤ 10
    omega
theorem rngB_size {x : Int × Int} (h : ROK x) : (rngB x).size ≤ 21 := by
  have a := letB_size h.1.1 h.1.2
  have b := letB_size h.2.1 h.2.2
  unfold rngB
  split
  · omega
  · rw [ByteArray.size_append, ByteArray.size_append]
    show _ + 1 + _ ≤ 21
    omega
theorem catB_le (k : Nat) : ∀ l : List ByteArray, (∀ x ∈ l, x.size ≤ k) → (catB l).size ≤ k * l.length := by
  intro l
  rw [catB_size]
  induction l with
  | nil => intro _; simp
  | cons a l ih =>
    intro h
    have h1 := h a (by simp)
    have h2 := ih (fun x hx => h x (by simp [hx]))
    simp only [List.map_cons, List.sum_cons, List.length_cons, Nat.mul_add, Nat.mul_one]
    omega
theorem ranges_le {l : List (Int × Int)} (h : ∀ x ∈ l, ROK x) : (catB (l.map rngB)).size ≤ 21 * l.length := by
  have := catB_le 21 (l.map rngB) (fun y hy => by
    obtain ⟨x, hx, rfl⟩ := List.mem_map.1 hy
    exact rngB_size (h x hx))
  simpa using this
theorem setB_size {l : List (Int × Int)} (h : ∀ x ∈ l, ROK x) : (setB l).size ≤ 21 * l.length + 2 := by
  unfold setB
  split
  · rename_i hh
    match l, hh with
    | [x], hh => have := letB_size (h x (by simp)).1.1 (h x (by simp)).1.2; simp; omega
  · have := ranges_le h
    rw [ByteArray.size_append, ByteArray.size_append]
    show 1 + _ + 1 ≤ _
    omega
set_option maxHeartbeats 4000000 in
set_option maxRecDepth 100000 in
theorem rng_any (x : Int × Int) (w : World) (hx : ROK x) (hT : TZ w) :
    Calls Tryz.prog 24 #[.agg #[.int .i32 x.1, .int .i32 x.2]] w fun e w' => e = .returned (.string (rngB x)) ∧ Below w.heap.size w w' := by
  have hl1 := fun w' (hb : Below w.heap.size w w') => letter_any x.1 w' hx.1.1 hx.1.2 (hT.moved hb)
  have hl2 := fun w' (hb : Below w.heap.size w w') => letter_any x.2 w' hx.2.1 hx.2.2 (hT.moved hb)
  have hs1 := letB_size hx.1.1 hx.1.2
  have hs2 := letB_size hx.2.1 hx.2.2
  obtain ⟨a, b⟩ := x
  obtain ⟨A, hA⟩ : ∃ A, A = letB a := ⟨_, rfl⟩
  obtain ⟨B, hB⟩ : ∃ B, B = letB b := ⟨_, rfl⟩
  simp only [← hA, ← hB] at hl1 hl2 hs1 hs2
  have he : rngB (a, b) = if a = b then A else (A ++ ⟨#[45]⟩) ++ B := by rw [hA, hB]; rfl
  have HL1 := Lib.hid hl1
  have HL2 := Lib.hid hl2
  have HE := Lib.hid he
  have hu1 : ¬ 9223372036854775807 < A.size + 1 := by omega
  have hu2 : ¬ 9223372036854775807 < (A.size + 1) + B.size := by omega
  clear hl1 hl2 hA hB he hx hT hs1 hs2
  by_cases c : a = b
  · have d : (a == b) = true := by simpa using c
    have HX := Lib.hid (HE.out.trans (if_pos c))
    clear c
    go_enter Tryz.func24, Tryz.ntmps24
    go_wp2_with fail
    refine (HL1.out _ ((Below.refl _ _).alloc (Nat.le_refl _) _)).mono ?_
    rintro e w2 ⟨rfl, hb2⟩
    have HB2 := Lib.hid (bel_then ((Below.refl w.heap.size w).alloc (Nat.le_refl _) _) hb2)
    clear hb2
    go_wp2_with fail
    go_ret
    exact ⟨by rw [HX.out]; rfl, HB2.out⟩
  · have d : (a == b) = false := by simpa using c
    have HX := Lib.hid (HE.out.trans (if_neg c))
    clear c
    go_enter Tryz.func24, Tryz.ntmps24
    go_upto_region 3 with (fail)
    obtain ⟨W, hW⟩ : ∃ W, W = w.alloc (.cells #[.int .i32 a, .int .i32 b] 53) := ⟨_, rfl⟩
    have c0 : W.cell? ⟨w.heap.size, 0, none⟩ = some (.int .i32 a) := by rw [hW]; exact Joins.cell_alloc_mark_at _ #[.int .i32 a, .int .i32 b] 53 (0, 0) _ 0 (by simp)
    have c1 : W.cell? ⟨w.heap.size, 1, none⟩ = some (.int .i32 b) := by rw [hW]; exact Joins.cell_alloc_mark_at _ #[.int .i32 a, .int .i32 b] 53 (0, 0) _ 1 (by simp)
    have hbW : Below w.heap.size w W := by rw [hW]; exact (Below.refl _ _).alloc (Nat.le_refl _) _
    rw [← hW]
    clear hW
    obtain ⟨ι, K, hne, hkb, hks⟩ := kept_family W
    have HBW := Lib.hid hbW
    have KB := Lib.hid hkb
    have KS := Lib.hid hks
    have kS := KS.out _ (Below.refl _ _).drew
    have HC1 := Lib.hid (fun i => calls_kept hkb hks (i := i) (HL1.out (K i) (bel_then hbW (hkb i))))
    have HC2 := Lib.hid (fun i => calls_kept hkb hks (i := i) (HL2.out (K i) (bel_then hbW (hkb i))))
    have j0 : ∀ i, (K i).cell? ⟨w.heap.size, 0, none⟩ = some (.int .i32 a) := fun i => cell_later (hkb i) c0
    have j1 : ∀ i, (K i).cell? ⟨w.heap.size, 1, none⟩ = some (.int .i32 b) := fun i => cell_later (hkb i) c1
    clear c0 c1 hbW hkb hks
    refine region_kept K (by kernel_rfl) (by kernel_rfl) kS ?_
    repeat (go_big_quiet_step (with_reducible first | exact HC1.out _ | exact HC2.out _))
    refine wpQuiet_nil ?_
    rintro _ ⟨iw, rfl⟩
    have HB6 := Lib.hid (bel_then HBW.out (KB.out iw))
    go_wp2_with fail
    go_ret
    exact ⟨by rw [HX.out]; rfl, HB6.out⟩
theorem joined_world (k w : World) (h : Below w.heap.size w k) :
    Below w.heap.size w ((k.alloc (.cells #[.string ⟨#[]⟩] 9)).alloc (.cells #[.func (Fn.func 24) #[] #[]] 59)) ∧
    ((k.alloc (.cells #[.string ⟨#[]⟩] 9)).alloc (.cells #[.func (Fn.func 24) #[] #[]] 59)).heap[k.heap.size]? = some (.cells #[.string ⟨#[]⟩] 9 (0, 0)) ∧
    ((k.alloc (.cells #[.string ⟨#[]⟩] 9)).alloc (.cells #[.func (Fn.func 24) #[] #[]] 59)).heap[k.heap.size + 1]? = some (.cells #[.func (Fn.func 24) #[] #[]] 59 (0, 0)) := by
  have hs := h.size
  refine ⟨(h.alloc hs _).alloc (by simp; omega) _, ?_, ?_⟩
  · rw [Below.heap_alloc _ _ _ (by simp)]
    exact heap_alloc_new k _
  · have := heap_alloc_new (k.alloc (Obj.cells #[Value.string ⟨#[]⟩] 9)) (Obj.cells #[.func (Fn.func 24) #[] #[]] 59)
    simpa using this
set_option maxHeartbeats 4000000 in
set_option maxRecDepth 100000 in
theorem prSet_any (l : List (Int × Int)) (v : Value) (w : World) (hr : Row w v l.length (flatK .i32 l)) (hl : ∀ x ∈ l, ROK x) (hn : l.length ≤ 100000) (hT : TZ w) :
    Calls Tryz.prog 9 #[v] w fun e w' => e = .returned (.string (setB l)) ∧ Below w.heap.size w w' := by
  have hr0 := hr
  obtain ⟨o, c, rfl, hc, hm, hrr⟩ := hr
  have HJN := Lib.hid (fun w' => joined_any w')
  have hsz := ranges_le hl
  by_cases h1 : l.length = 1 ∧ (l.getD 0 (0, 0)).1 = (l.getD 0 (0, 0)).2
  · obtain ⟨h1, h2⟩ := h1
    match l, h1 with
    | [x], _ =>
      rcases hrr with ⟨h0, -⟩ | ⟨b, off, rfl, hlt, hcell⟩
      · simp at h0
      · obtain ⟨p0, p1⟩ := flatK_at .i32 [x] 0 (by simp)
        have z0 := hcell _ _ p0
        have z1 := hcell _ _ p1
        simp at z0 z1
        have hx := hl x (by simp)
        have c : x.1 = x.2 := h2
        have d : (x.1 == x.2) = true := by simpa using c
        have HX := Lib.hid (show setB [x] = letB x.1 from if_pos ⟨rfl, c⟩)
        have HL := Lib.hid (fun w' (hb : Below w.heap.size w w') => letter_any x.1 w' hx.1.1 hx.1.2 (hT.moved hb))
        clear hr0 hsz hcell p0 p1 hx hl hT c h2
        simp only [List.length_singleton]
        go_enter Tryz.func9, Tryz.ntmps9
        go_wp2_with fail
        obtain ⟨ι, K, hne, hkb, hks⟩ := kept_family w
        have KB := Lib.hid hkb
        have kS := hks _ (Below.refl _ _).drew
        have j0 : ∀ i, (K i).cell? ⟨b, off, none⟩ = some (.int .i32 x.1) := fun i => cell_later (hkb i) z0
        have j1 : ∀ i, (K i).cell? ⟨b, off + 1, none⟩ = some (.int .i32 x.2) := fun i => cell_later (hkb i) z1
        clear hkb hks
        refine region_kept K (by kernel_rfl) (by kernel_rfl) kS ?_
        repeat (go_big_quiet_step (fail))
        refine wpQuiet_nil ?_
        rintro _ ⟨iw, rfl⟩
        have m0 := j0 iw
        have HBK := Lib.hid (KB.out iw)
        go_wp2_with fail
        refine (HL.out _ HBK.out).mono ?_
        rintro e w2 ⟨rfl, hb2⟩
        have HB2 := Lib.hid (bel_then HBK.out hb2)
        clear hb2
        go_wp2_with fail
        go_ret
        exact ⟨by rw [HX.out]; rfl, HB2.out⟩
  · have HX := Lib.hid (show setB l = (⟨#[91]⟩ ++ catB (l.map rngB)) ++ ⟨#[93]⟩ from if_neg h1)
    have HJ := Lib.hid (fun q (w' : World) (hb : Below w.heap.size w w') (q0 : w'.heap[q]? = some (.cells #[.string ⟨#[]⟩] 9 (0, 0))) (q1 : w'.heap[q + 1]? = some (.cells #[.func (Fn.func 24) #[] #[]] 59 (0, 0))) =>
      joinedR_any q l rngB (.slice o l.length c) w' (hr0.below hb) hn q0 q1 (fun x hx w3 hb3 => rng_any x w3 (hl x hx) (hT.moved (bel_then hb hb3))) (by omega))
    obtain ⟨C, hC⟩ : ∃ C, C = catB (l.map rngB) := ⟨_, rfl⟩
    rw [← hC] at HX HJ hsz
    have hu1 : ¬ 9223372036854775807 < 1 + C.size := by omega
    have hu2 : ¬ 9223372036854775807 < 1 + C.size + 1 := by omega
    by_cases h2 : l.length = 1
    · obtain ⟨x, rfl⟩ := List.length_eq_one_iff.1 h2
      rcases hrr with ⟨h0, -⟩ | ⟨b, off, rfl, hlt, hcell⟩
      · simp at h0
      · obtain ⟨p0, p1⟩ := flatK_at .i32 [x] 0 (by simp)
        have z0 := hcell _ _ p0
        have z1 := hcell _ _ p1
        simp at z0 z1
        have c : ¬ x.1 = x.2 := fun h => h1 ⟨rfl, h⟩
        have d : (x.1 == x.2) = false := by simpa using c
        clear hr0 hsz hcell p0 p1 hl hT c h1 hC
        simp only [List.length_singleton] at HJ ⊢
        go_enter Tryz.func9, Tryz.ntmps9
        go_wp2_with fail
        obtain ⟨ι, K, hne, hkb, hks⟩ := kept_family w
        have KB := Lib.hid hkb
        have kS := hks _ (Below.refl _ _).drew
        have j0 : ∀ i, (K i).cell? ⟨b, off, none⟩ = some (.int .i32 x.1) := fun i => cell_later (hkb i) z0
        have j1 : ∀ i, (K i).cell? ⟨b, off + 1, none⟩ = some (.int .i32 x.2) := fun i => cell_later (hkb i) z1
        clear hkb hks
        refine region_kept K (by kernel_rfl) (by kernel_rfl) kS ?_
        repeat (go_big_quiet_step (fail))
        refine wpQuiet_nil ?_
        rintro _ ⟨iw, rfl⟩
        have HBK := Lib.hid (KB.out iw)
        go_wp2_with fail
        refine (HJN.out _).mono ?_
        rintro e w2 ⟨rfl, rfl⟩
        obtain ⟨hbX, x0, x1⟩ := joined_world (K iw) w HBK.out
        go_wp2_with fail
        refine (HJ.out _ _ hbX x0 x1).mono ?_
        rintro e w2 ⟨rfl, hb2⟩
        have HB2 := Lib.hid (bel_then hbX hb2)
        clear hb2 hbX x0 x1
        go_wp2_with fail
        go_ret
        exact ⟨by rw [HX.out]; rfl, HB2.out⟩
    · have d : ((l.length : Int) == 1) = false := by simp; omega
      clear hr0 hsz hl hT h1 hC hrr
      go_enter Tryz.func9, Tryz.ntmps9
      go_wp2_with fail
      obtain ⟨ι, K, hne, hkb, hks⟩ := kept_family w
      have KB := Lib.hid hkb
      have kS := hks _ (Below.refl _ _).drew
      clear hkb hks
      refine region_kept K (by kernel_rfl) (by kernel_rfl) kS ?_
      repeat (go_big_quiet_step (fail))
      refine wpQuiet_nil ?_
      rintro _ ⟨iw, rfl⟩
      have HBK := Lib.hid (KB.out iw)
      go_wp2_with fail
      refine (HJN.out _).mono ?_
      rintro e w2 ⟨rfl, rfl⟩
      obtain ⟨hbX, x0, x1⟩ := joined_world (K iw) w HBK.out
      go_wp2_with fail
      refine (HJ.out _ _ hbX x0 x1).mono ?_
      rintro e w2 ⟨rfl, hb2⟩
      have HB2 := Lib.hid (bel_then hbX hb2)
      clear hb2 hbX x0 x1
      go_wp2_with fail
      go_ret
      exact ⟨by rw [HX.out]; rfl, HB2.out⟩
end Go.Proofs.YtbanmggkfpnalaaGreatDoor
