/- print.expression: the walks. -/
import Derived.Test.YtahckikemljlnaaGreatDoorLetter
import Derived.Lib.SmallJoins
import Derived.Test.YtahckikemljlnaaGreatDoorGRefE
set_option linter.unusedVariables false
set_option linter.unusedSimpArgs false
namespace Go.Proofs.YtahckikemljlnaaGreatDoor
open Go.RowKit Ru

def catB (l : List ByteArray) : ByteArray := ⟨((l.map (·.data.toList)).flatten).toArray⟩
theorem catB_size (l : List ByteArray) : (catB l).size = (l.map ByteArray.size).sum := by
  show ((l.map (·.data.toList)).flatten).toArray.size = _
  rw [List.size_toArray]
  induction l with
  | nil => rfl
  | cons a l ih => simp [ih]
theorem join_none (l : List (List UInt8)) : Lib.join l [] = l.flatten := by
  induction l with
  | nil => rfl
  | cons a l ih =>
    cases l with
    | nil => simp [Lib.join]
    | cons b l => simp [Lib.join] at ih ⊢; rw [ih]
theorem strJoin_any (v : Value) (l : List ByteArray) (w : World) (hr : Row w v l.length (strs l)) (hn : l.length ≤ 1000000) (hl : (catB l).size ≤ 140737488355328) :
    Calls Tryz.prog 117 #[v, .string ⟨#[]⟩] w fun e w' => e = .returned (.string (catB l)) ∧ Below w.heap.size w w' := by
  obtain ⟨o, c, rfl, hc, hm, hrr⟩ := hr
  rcases hrr with ⟨h0, -⟩ | ⟨b, off, rfl, hlt, hcell⟩
  · have hl0 : l = [] := List.eq_nil_of_length_eq_zero h0
    subst hl0
    refine (Tryz.strings_Join_none o c ⟨#[]⟩ w).mono ?_
    rintro e w' ⟨rfl, rfl⟩
    exact ⟨rfl, Below.refl _ _⟩
  · have hj : Lib.join (l.map (·.data.toList)) (⟨#[]⟩ : ByteArray).data.toList = (l.map (·.data.toList)).flatten := join_none _
    have hsz : (Lib.join (l.map (·.data.toList)) (⟨#[]⟩ : ByteArray).data.toList).length ≤ 140737488355328 := by
      rw [hj]
      have : (catB l).size = ((l.map (·.data.toList)).flatten).length := by show ((l.map (·.data.toList)).flatten).toArray.size = _; rw [List.size_toArray]
      omega
    refine (Tryz.strings_Join b off c l ⟨#[]⟩ w (fun j x hx => hcell j _ (strs_get hx)) hlt (by omega) hc hsz).mono ?_
    rintro e w' ⟨rfl, hb⟩
    refine ⟨?_, hb⟩
    unfold catB
    rw [hj]
theorem get_lt {w : World} {p : Nat} {o : Obj} (h : w.heap[p]? = some o) : p < w.heap.size := (Array.getElem?_eq_some_iff.1 h).1
theorem joined_any (w : World) : Calls Tryz.prog 80 #[.string ⟨#[]⟩, .func (Fn.func 81) #[] #[]] w fun e w' =>
    e = .returned (.func (Fn.func 132) #[] #[.pointer (some ⟨w.heap.size + 1, 0, none⟩), .pointer (some ⟨w.heap.size, 0, none⟩)]) ∧
      w' = (w.alloc (.cells #[.string ⟨#[]⟩] 9)).alloc (.cells #[.func (Fn.func 81) #[] #[]] 124) := by
  go_enter Tryz.func80, Tryz.ntmps80
  go_wp2
  go_ret
  exact ⟨rfl, rfl⟩
set_option maxHeartbeats 4000000 in
set_option maxRecDepth 100000 in
theorem joinedR_any (q : Nat) (xs : List (Int × Int)) (T : Int × Int → ByteArray) (v : Value) (w : World) (hr : Row w v xs.length (flatK .i32 xs)) (hn : xs.length ≤ 100000)
    (hq0 : w.heap[q]? = some (.cells #[.string ⟨#[]⟩] 9 (0, 0))) (hq1 : w.heap[q + 1]? = some (.cells #[.func (Fn.func 81) #[] #[]] 124 (0, 0)))
    (hF : ∀ x ∈ xs, ∀ w', Below w.heap.size w w' → Calls Tryz.prog 81 #[.agg #[.int .i32 x.1, .int .i32 x.2]] w' fun e w'' => e = .returned (.string (T x)) ∧ Below w'.heap.size w' w'')
    (hl : (catB (xs.map T)).size ≤ 140737488355328) :
    Calls Tryz.prog 132 #[v, .pointer (some ⟨q + 1, 0, none⟩), .pointer (some ⟨q, 0, none⟩)] w fun e w' => e = .returned (.string (catB (xs.map T))) ∧ Below w.heap.size w w' := by
  obtain ⟨i0, hi, hz0, hz1, hz2⟩ := infoStr1
  have hr0 := hr
  obtain ⟨o, c, rfl, hc, hm, hrr⟩ := hr
  have HR := Lib.hid hr0
  have HF := Lib.hid hF
  have HL := Lib.hid hl
  have HQ := Lib.hid (And.intro hq0 hq1)
  clear hr0 hrr hF hl hq0 hq1
  obtain ⟨n, hnn⟩ : ∃ n, n = xs.length := ⟨_, rfl⟩
  rw [← hnn] at HR hn hc ⊢
  have HNN := Lib.hid hnn
  clear hnn
  go_enter Tryz.func132, Tryz.ntmps132
  go_wp2_with fail
  go_loopw [5, 10] (fun x i wr => ∃ k : Nat, k ≤ n ∧ i = .int .i64 k ∧ wr.ownsRow w.heap.size 9 1 x k (strs ((xs.take k).map T)) ∧ Below w.heap.size w wr) (fun _ i _ => n - (intOf i).toNat)
  case atStart => exact ⟨0, Nat.zero_le _, rfl, World.ownsRow_nil _ _ _ _, Below.refl _ _⟩
  case round =>
    obtain ⟨k, hk, rfl, hown, hbel⟩ := hrel
    have hbs := hbel.size
    obtain ⟨g0, y0⟩ := cell1_of ((hbel.block _ (get_lt HQ.out.1)).trans HQ.out.1)
    obtain ⟨g1, y1⟩ := cell1_of ((hbel.block _ (get_lt HQ.out.2)).trans HQ.out.2)
    have hlt1 := get_lt HQ.out.2
    have hlt2 : q + 1 < wr.heap.size := by omega
    have hne2 : ¬ q + 1 = wr.heap.size := by omega
    have hlt3 : q < wr.heap.size := by omega
    have hne3 : ¬ q = wr.heap.size := by omega
    by_cases hkl : k < n
    · have hd : decide ((k : Int) < (n : Int)) = true := by simp; omega
      have hk1 : (0 : Int) ≤ (k : Int) := by omega
      have hk2 : (k : Int) < (n : Int) := by omega
      rcases hrr : HR.out with ⟨o', c', e', h1, h2, ⟨h0, _⟩ | ⟨b, off, e'', hlt, hcell⟩⟩
      · omega
      cases e'
      cases e''
      have hkx : k < xs.length := by rw [← HNN.out]; exact hkl
      obtain ⟨x, hx⟩ : ∃ x, xs[k]? = some x := ⟨_, List.getElem?_eq_getElem hkx⟩
      have hxd : xs.getD k (0, 0) = x := by simp [List.getD, hx]
      obtain ⟨p0, p1⟩ := flatK_at .i32 xs k hkx
      rw [hxd] at p0 p1
      have z0 := hcell _ _ p0
      have z1 := hcell _ _ p1
      rw [← hbel.cell hlt] at z0 z1
      rw [← Nat.add_assoc] at z1
      have hlt' : b < wr.heap.size := by omega
      have HOWN := Lib.hid hown
      have HB := Lib.hid hbel
      have HC := Lib.hid (fun w' hb => HF.out x (List.mem_of_getElem? hx) w' hb)
      clear hown hbel hcell hrr
      go_wp2_with fail
      refine (HC.out _ (HB.out.alloc hbs _)).mono ?_
      rintro e w2 ⟨rfl, hb2⟩
      have HB2 := Lib.hid hb2
      clear hb2 g0 y0 g1 y1
      go_wp2_with (first
        | (at_builtin; refine wpList_append_own _ rfl _ _ 62 rfl w.heap.size 9 i0 (.string ⟨#[]⟩) 1 16 Tryz.underlying62 hi hz0 hz1 hz2 rfl (by decide) _ k (strs ((xs.take k).map T)) rfl ?c0 ⟨w2.heap.size, 0, none⟩ 1 1 [.string (T x)] rfl rfl ?c1 ?c2 ?c3 ?c4 ?c5 ?_)
        | go_in)
      case c0 => exact (owns_below (owns_below HOWN.out ((Below.refl _ _).alloc (Nat.le_refl _) _)) HB2.out).alloc _
      case c1 =>
        intro j u hj
        match j, hj with
        | 0, hj => simp at hj; subst hj; exact Joins.cell_alloc_mark_at _ #[.string (T x)] 9 (0, 0) _ 0 (by simp)
      case c2 => intro u hu; simp at hu; subst hu; rfl
      case c3 => unfold maxLen; omega
      case c4 => omega
      case c5 => have hz2 := HB2.out.size; simp at hz2; simp; omega
      intro v' w4 hown' hgrow _
      have hB1 : Below w.heap.size w w4 := by
        have hz2 := HB2.out.size
        simp at hz2
        refine ((bel_then (HB.out.alloc hbs _) HB2.out).alloc (by omega) _).grown hgrow (by simp; omega) (fun j hj => ?_)
        exact (HOWN.out.lt j hj).1
      have htk : (xs.take (k + 1)).map T = (xs.take k).map T ++ [T x] := by rw [List.take_add_one, hx]; simp
      have hown2 : w4.ownsRow w.heap.size 9 1 v' (k + 1) (strs ((xs.take (k + 1)).map T)) := by
        rw [htk]; simpa [strs] using hown'
      have HO := Lib.hid hown2
      have HB4 := Lib.hid hB1
      clear hown' hgrow hown2 hB1 htk z0 z1 p0 p1 hx hxd HB HB2 HOWN HC hne2 hne3 hlt1 hlt2 hlt3 hlt' hlt hkx
      go_wp2_with fail
      go_roundw
      case rel => exact ⟨k + 1, by omega, by go_num, HO.out, HB4.out⟩
      case measure => simp [intOf]; omega
    · have hkn : k = n := by omega
      subst hkn
      have hd : decide ((k : Int) < (k : Int)) = false := by simp
      have htk : xs.take k = xs := List.take_of_length_le (by rw [← HNN.out]; exact Nat.le_refl _)
      rw [htk] at hown
      have hrow : Row wr u5 (xs.map T).length (strs (xs.map T)) := by
        have := Row.owned hown
        rw [List.length_map, ← HNN.out]; exact this
      have hjn := strJoin_any _ _ _ hrow (by rw [List.length_map, ← HNN.out]; omega) HL.out
      have HJ := Lib.hid hjn
      have HB := Lib.hid hbel
      clear hown hrow hjn hbel htk
      go_wp2_with fail
      refine HJ.out.mono ?_
      rintro e w2 ⟨rfl, hb2⟩
      have HB2 := Lib.hid (bel_then HB.out hb2)
      clear hb2
      go_wp2_with fail
      go_ret
      exact ⟨rfl, HB2.out⟩
end Go.Proofs.YtahckikemljlnaaGreatDoor

namespace Go.Proofs.YtahckikemljlnaaGreatDoor
open Go.RowKit Ru

def ROK (x : Int × Int) : Prop := (0 ≤ x.1 ∧ x.1 ≤ 1114111) ∧ (0 ≤ x.2 ∧ x.2 ≤ 1114111)
def rngB (x : Int × Int) : ByteArray := if x.1 = x.2 then letB x.1 else (letB x.1 ++ ⟨#[45]⟩) ++ letB x.2
def setB (l : List (Int × Int)) : ByteArray := if l.length = 1 ∧ (l.getD 0 (0, 0)).1 = (l.getD 0 (0, 0)).2 then letB (l.getD 0 (0, 0)).1 else (⟨#[91]⟩ ++ catB (l.map rngB)) ++ ⟨#[93]⟩
theorem hexU_size {r : Int} (h0 : 0 ≤ r) (h1 : r ≤ 1114111) : (hexU r.toNat).size ≤ 6 := by
  show (Lib.toUpperA (hexN r.toNat)).toArray.size ≤ 6
  rw [List.size_toArray]
  have := hexN_len 5 r.toNat (by have : r.toNat < 16777216 := by omega
                                 simpa using this)
  simp only [Lib.toUpperA, List.length_map]
  omega
theorem letB_size {r : Int} (h0 : 0 ≤ r) (h1 : r ≤ 1114111) : (letB r).size ≤ 10 := by
  unfold letB
  split
  · show 1 ≤ 10; decide
  · have := hexU_size h0 h1
    rw [ByteArray.size_append, ByteArray.size_append]
    show 3 + _ + 1 ≤ 10
    omega
theorem rngB_size {x : Int × Int} (h : ROK x) : (rngB x).size ≤ 21 := by
  have a := letB_size h.1.1 h.1.2
  have b := letB_size h.2.1 h.2.2
  unfold rngB
  split
  · omega
  · rw [ByteArray.size_append, ByteArray.size_append]
    show _ + 1 + _ ≤ 21
    omega
theorem catB_le (k : Nat) : ∀ l : List ByteArray, (∀ x ∈ l, x.size ≤ k) → (catB l).size ≤ k * l.length := by
  intro l
  rw [catB_size]
  induction l with
  | nil => intro _; simp
  | cons a l ih =>
    intro h
    have h1 := h a (by simp)
    have h2 := ih (fun x hx => h x (by simp [hx]))
    simp only [List.map_cons, List.sum_cons, List.length_cons, Nat.mul_add, Nat.mul_one]
    omega
theorem ranges_le {l : List (Int × Int)} (h : ∀ x ∈ l, ROK x) : (catB (l.map rngB)).size ≤ 21 * l.length := by
  have := catB_le 21 (l.map rngB) (fun y hy => by
    obtain ⟨x, hx, rfl⟩ := List.mem_map.1 hy
    exact rngB_size (h x hx))
  simpa using this
theorem setB_size {l : List (Int × Int)} (h : ∀ x ∈ l, ROK x) : (setB l).size ≤ 21 * l.length + 2 := by
  unfold setB
  split
  · rename_i hh
    match l, hh with
    | [x], hh => have := letB_size (h x (by simp)).1.1 (h x (by simp)).1.2; simp; omega
  · have := ranges_le h
    rw [ByteArray.size_append, ByteArray.size_append]
    show 1 + _ + 1 ≤ _
    omega
set_option maxHeartbeats 4000000 in
set_option maxRecDepth 100000 in
theorem rng_any (x : Int × Int) (w : World) (hx : ROK x) (hT : TZ w) :
    Calls Tryz.prog 81 #[.agg #[.int .i32 x.1, .int .i32 x.2]] w fun e w' => e = .returned (.string (rngB x)) ∧ Below w.heap.size w w' := by
  have hl1 := fun w' (hb : Below w.heap.size w w') => letter_any x.1 w' hx.1.1 hx.1.2 (hT.moved hb)
  have hl2 := fun w' (hb : Below w.heap.size w w') => letter_any x.2 w' hx.2.1 hx.2.2 (hT.moved hb)
  have hs1 := letB_size hx.1.1 hx.1.2
  have hs2 := letB_size hx.2.1 hx.2.2
  obtain ⟨a, b⟩ := x
  obtain ⟨A, hA⟩ : ∃ A, A = letB a := ⟨_, rfl⟩
  obtain ⟨B, hB⟩ : ∃ B, B = letB b := ⟨_, rfl⟩
  simp only [← hA, ← hB] at hl1 hl2 hs1 hs2
  have he : rngB (a, b) = if a = b then A else (A ++ ⟨#[45]⟩) ++ B := by rw [hA, hB]; rfl
  have HL1 := Lib.hid hl1
  have HL2 := Lib.hid hl2
  have HE := Lib.hid he
  have hu1 : ¬ 9223372036854775807 < A.size + 1 := by omega
  have hu2 : ¬ 9223372036854775807 < (A.size + 1) + B.size := by omega
  clear hl1 hl2 hA hB he hx hT hs1 hs2
  by_cases c : a = b
  · have d : (a == b) = true := by simpa using c
    have HX := Lib.hid (HE.out.trans (if_pos c))
    clear c
    go_enter Tryz.func81, Tryz.ntmps81
    go_wp2_with fail
    refine (HL1.out _ ((Below.refl _ _).alloc (Nat.le_refl _) _)).mono ?_
    rintro e w2 ⟨rfl, hb2⟩
    have HB2 := Lib.hid (bel_then ((Below.refl w.heap.size w).alloc (Nat.le_refl _) _) hb2)
    clear hb2
    go_wp2_with fail
    go_ret
    exact ⟨by rw [HX.out]; rfl, HB2.out⟩
  · have d : (a == b) = false := by simpa using c
    have HX := Lib.hid (HE.out.trans (if_neg c))
    clear c
    go_enter Tryz.func81, Tryz.ntmps81
    go_upto_region 3 with (fail)
    obtain ⟨W, hW⟩ : ∃ W, W = w.alloc (.cells #[.int .i32 a, .int .i32 b] 86) := ⟨_, rfl⟩
    have c0 : W.cell? ⟨w.heap.size, 0, none⟩ = some (.int .i32 a) := by rw [hW]; exact Joins.cell_alloc_mark_at _ #[.int .i32 a, .int .i32 b] 86 (0, 0) _ 0 (by simp)
    have c1 : W.cell? ⟨w.heap.size, 1, none⟩ = some (.int .i32 b) := by rw [hW]; exact Joins.cell_alloc_mark_at _ #[.int .i32 a, .int .i32 b] 86 (0, 0) _ 1 (by simp)
    have hbW : Below w.heap.size w W := by rw [hW]; exact (Below.refl _ _).alloc (Nat.le_refl _) _
    rw [← hW]
    clear hW
    obtain ⟨ι, K, hne, hkb, hks⟩ := kept_family W
    have HBW := Lib.hid hbW
    have KB := Lib.hid hkb
    have KS := Lib.hid hks
    have kS := KS.out _ (Below.refl _ _).drew
    have HC1 := Lib.hid (fun i => calls_kept hkb hks (i := i) (HL1.out (K i) (bel_then hbW (hkb i))))
    have HC2 := Lib.hid (fun i => calls_kept hkb hks (i := i) (HL2.out (K i) (bel_then hbW (hkb i))))
    have j0 : ∀ i, (K i).cell? ⟨w.heap.size, 0, none⟩ = some (.int .i32 a) := fun i => cell_later (hkb i) c0
    have j1 : ∀ i, (K i).cell? ⟨w.heap.size, 1, none⟩ = some (.int .i32 b) := fun i => cell_later (hkb i) c1
    clear c0 c1 hbW hkb hks
    refine region_kept K (by kernel_rfl) (by kernel_rfl) kS ?_
    repeat (go_big_quiet_step (with_reducible first | exact HC1.out _ | exact HC2.out _))
    refine wpQuiet_nil ?_
    rintro _ ⟨iw, rfl⟩
    have HB6 := Lib.hid (bel_then HBW.out (KB.out iw))
    go_wp2_with fail
    go_ret
    exact ⟨by rw [HX.out]; rfl, HB6.out⟩
theorem joined_world (k w : World) (h : Below w.heap.size w k) :
    Below w.heap.size w ((k.alloc (.cells #[.string ⟨#[]⟩] 9)).alloc (.cells #[.func (Fn.func 81) #[] #[]] 124)) ∧
    ((k.alloc (.cells #[.string ⟨#[]⟩] 9)).alloc (.cells #[.func (Fn.func 81) #[] #[]] 124)).heap[k.heap.size]? = some (.cells #[.string ⟨#[]⟩] 9 (0, 0)) ∧
    ((k.alloc (.cells #[.string ⟨#[]⟩] 9)).alloc (.cells #[.func (Fn.func 81) #[] #[]] 124)).heap[k.heap.size + 1]? = some (.cells #[.func (Fn.func 81) #[] #[]] 124 (0, 0)) := by
  have hs := h.size
  refine ⟨(h.alloc hs _).alloc (by simp; omega) _, ?_, ?_⟩
  · rw [Below.heap_alloc _ _ _ (by simp)]
    exact heap_alloc_new k _
  · have := heap_alloc_new (k.alloc (Obj.cells #[Value.string ⟨#[]⟩] 9)) (Obj.cells #[.func (Fn.func 81) #[] #[]] 124)
    simpa using this
set_option maxHeartbeats 4000000 in
set_option maxRecDepth 100000 in
theorem prSet_any (l : List (Int × Int)) (v : Value) (w : World) (hr : Row w v l.length (flatK .i32 l)) (hl : ∀ x ∈ l, ROK x) (hn : l.length ≤ 100000) (hT : TZ w) :
    Calls Tryz.prog 32 #[v] w fun e w' => e = .returned (.string (setB l)) ∧ Below w.heap.size w w' := by
  have hr0 := hr
  obtain ⟨o, c, rfl, hc, hm, hrr⟩ := hr
  have HJN := Lib.hid (fun w' => joined_any w')
  have hsz := ranges_le hl
  by_cases h1 : l.length = 1 ∧ (l.getD 0 (0, 0)).1 = (l.getD 0 (0, 0)).2
  · obtain ⟨h1, h2⟩ := h1
    match l, h1 with
    | [x], _ =>
      rcases hrr with ⟨h0, -⟩ | ⟨b, off, rfl, hlt, hcell⟩
      · simp at h0
      · obtain ⟨p0, p1⟩ := flatK_at .i32 [x] 0 (by simp)
        have z0 := hcell _ _ p0
        have z1 := hcell _ _ p1
        simp at z0 z1
        have hx := hl x (by simp)
        have c : x.1 = x.2 := h2
        have d : (x.1 == x.2) = true := by simpa using c
        have HX := Lib.hid (show setB [x] = letB x.1 from if_pos ⟨rfl, c⟩)
        have HL := Lib.hid (fun w' (hb : Below w.heap.size w w') => letter_any x.1 w' hx.1.1 hx.1.2 (hT.moved hb))
        clear hr0 hsz hcell p0 p1 hx hl hT c h2
        simp only [List.length_singleton]
        go_enter Tryz.func32, Tryz.ntmps32
        go_wp2_with fail
        obtain ⟨ι, K, hne, hkb, hks⟩ := kept_family w
        have KB := Lib.hid hkb
        have kS := hks _ (Below.refl _ _).drew
        have j0 : ∀ i, (K i).cell? ⟨b, off, none⟩ = some (.int .i32 x.1) := fun i => cell_later (hkb i) z0
        have j1 : ∀ i, (K i).cell? ⟨b, off + 1, none⟩ = some (.int .i32 x.2) := fun i => cell_later (hkb i) z1
        clear hkb hks
        refine region_kept K (by kernel_rfl) (by kernel_rfl) kS ?_
        repeat (go_big_quiet_step (fail))
        refine wpQuiet_nil ?_
        rintro _ ⟨iw, rfl⟩
        have m0 := j0 iw
        have HBK := Lib.hid (KB.out iw)
        go_wp2_with fail
        refine (HL.out _ HBK.out).mono ?_
        rintro e w2 ⟨rfl, hb2⟩
        have HB2 := Lib.hid (bel_then HBK.out hb2)
        clear hb2
        go_wp2_with fail
        go_ret
        exact ⟨by rw [HX.out]; rfl, HB2.out⟩
  · have HX := Lib.hid (show setB l = (⟨#[91]⟩ ++ catB (l.map rngB)) ++ ⟨#[93]⟩ from if_neg h1)
    have HJ := Lib.hid (fun q (w' : World) (hb : Below w.heap.size w w') (q0 : w'.heap[q]? = some (.cells #[.string ⟨#[]⟩] 9 (0, 0))) (q1 : w'.heap[q + 1]? = some (.cells #[.func (Fn.func 81) #[] #[]] 124 (0, 0))) =>
      joinedR_any q l rngB (.slice o l.length c) w' (hr0.below hb) hn q0 q1 (fun x hx w3 hb3 => rng_any x w3 (hl x hx) (hT.moved (bel_then hb hb3))) (by omega))
    obtain ⟨C, hC⟩ : ∃ C, C = catB (l.map rngB) := ⟨_, rfl⟩
    rw [← hC] at HX HJ hsz
    have hu1 : ¬ 9223372036854775807 < 1 + C.size := by omega
    have hu2 : ¬ 9223372036854775807 < 1 + C.size + 1 := by omega
    by_cases h2 : l.length = 1
    · obtain ⟨x, rfl⟩ := List.length_eq_one_iff.1 h2
      rcases hrr with ⟨h0, -⟩ | ⟨b, off, rfl, hlt, hcell⟩
      · simp at h0
      · obtain ⟨p0, p1⟩ := flatK_at .i32 [x] 0 (by simp)
        have z0 := hcell _ _ p0
        have z1 := hcell _ _ p1
        simp at z0 z1
        have c : ¬ x.1 = x.2 := fun h => h1 ⟨rfl, h⟩
        have d : (x.1 == x.2) = false := by simpa using c
        clear hr0 hsz hcell p0 p1 hl hT c h1 hC
        simp only [List.length_singleton] at HJ ⊢
        go_enter Tryz.func32, Tryz.ntmps32
        go_wp2_with fail
        obtain ⟨ι, K, hne, hkb, hks⟩ := kept_family w
        have KB := Lib.hid hkb
        have kS := hks _ (Below.refl _ _).drew
        have j0 : ∀ i, (K i).cell? ⟨b, off, none⟩ = some (.int .i32 x.1) := fun i => cell_later (hkb i) z0
        have j1 : ∀ i, (K i).cell? ⟨b, off + 1, none⟩ = some (.int .i32 x.2) := fun i => cell_later (hkb i) z1
        clear hkb hks
        refine region_kept K (by kernel_rfl) (by kernel_rfl) kS ?_
        repeat (go_big_quiet_step (fail))
        refine wpQuiet_nil ?_
        rintro _ ⟨iw, rfl⟩
        have HBK := Lib.hid (KB.out iw)
        go_wp2_with fail
        refine (HJN.out _).mono ?_
        rintro e w2 ⟨rfl, rfl⟩
        obtain ⟨hbX, x0, x1⟩ := joined_world (K iw) w HBK.out
        go_wp2_with fail
        refine (HJ.out _ _ hbX x0 x1).mono ?_
        rintro e w2 ⟨rfl, hb2⟩
        have HB2 := Lib.hid (bel_then hbX hb2)
        clear hb2 hbX x0 x1
        go_wp2_with fail
        go_ret
        exact ⟨by rw [HX.out]; rfl, HB2.out⟩
    · have d : ((l.length : Int) == 1) = false := by simp; omega
      clear hr0 hsz hl hT h1 hC hrr
      go_enter Tryz.func32, Tryz.ntmps32
      go_wp2_with fail
      obtain ⟨ι, K, hne, hkb, hks⟩ := kept_family w
      have KB := Lib.hid hkb
      have kS := hks _ (Below.refl _ _).drew
      clear hkb hks
      refine region_kept K (by kernel_rfl) (by kernel_rfl) kS ?_
      repeat (go_big_quiet_step (fail))
      refine wpQuiet_nil ?_
      rintro _ ⟨iw, rfl⟩
      have HBK := Lib.hid (KB.out iw)
      go_wp2_with fail
      refine (HJN.out _).mono ?_
      rintro e w2 ⟨rfl, rfl⟩
      obtain ⟨hbX, x0, x1⟩ := joined_world (K iw) w HBK.out
      go_wp2_with fail
      refine (HJ.out _ _ hbX x0 x1).mono ?_
      rintro e w2 ⟨rfl, hb2⟩
      have HB2 := Lib.hid (bel_then hbX hb2)
      clear hb2 hbX x0 x1
      go_wp2_with fail
      go_ret
      exact ⟨by rw [HX.out]; rfl, HB2.out⟩
end Go.Proofs.YtahckikemljlnaaGreatDoor

namespace Go.Proofs.YtahckikemljlnaaGreatDoor
open Go.RowKit Ru

def hold (t : ByteArray) (m : Bool) : ByteArray := if m = true then (⟨#[40]⟩ ++ t) ++ ⟨#[41]⟩ else t
theorem hold_size (t : ByteArray) (m : Bool) : (hold t m).size ≤ t.size + 2 := by
  unfold hold
  split
  · rw [ByteArray.size_append, ByteArray.size_append]; show 1 + _ + 1 ≤ _; omega
  · omega
def nodeB (k : Int) (s : List (Int × Int)) (ks : List Int) (ts : List ByteArray) : ByteArray :=
  if k = 1 then ⟨#[40, 41]⟩
  else if k = 2 then setB s
  else if k = 3 then hold (ts.getD 0 ⟨#[]⟩) ([4].contains (ks.getD 0 0)) ++ hold (ts.getD 1 ⟨#[]⟩) ([4, 3].contains (ks.getD 1 0))
  else if k = 4 then (hold (ts.getD 0 ⟨#[]⟩) false ++ ⟨#[124]⟩) ++ hold (ts.getD 1 ⟨#[]⟩) ([4].contains (ks.getD 1 0))
  else if k = 5 then hold (ts.getD 0 ⟨#[]⟩) ([3, 4].contains (ks.getD 0 0)) ++ ⟨#[42]⟩
  else ⟨#[91, 93]⟩
namespace RE
mutual
def text : RE → ByteArray
  | .mk k s l => nodeB k s (l.map kind) (texts l)
def texts : List RE → List ByteArray
  | [] => []
  | e :: l => text e :: texts l
end
theorem texts_map (l : List RE) : texts l = l.map text := by
  induction l with
  | nil => rw [texts]; rfl
  | cons a l ih => rw [texts, ih]; rfl
theorem text_eq (e : RE) : e.text = nodeB e.kind e.set (e.parts.map kind) (e.parts.map text) := by
  cases e with
  | mk k s l => rw [text, texts_map]; rfl
theorem prt_shp {e : RE} (h : e.prt = true) : e.shp = true := by rw [prt_eq, Bool.and_eq_true] at h; exact h.1
theorem prt_part {e p : RE} {i : Nat} (h : e.prt = true) (hp : e.parts[i]? = some p) : p.prt = true := by
  rw [prt_eq, Bool.and_eq_true] at h
  have all : ∀ (l : List RE), prtL l = true → ∀ p ∈ l, p.prt = true := by
    intro l
    induction l with
    | nil => intro _ p hp; simp at hp
    | cons a l ih =>
      intro h p hp
      rw [prtL_cons, Bool.and_eq_true] at h
      rcases List.mem_cons.1 hp with rfl | hp
      · exact h.1
      · exact ih h.2 p hp
  exact all _ h.2 p (List.mem_of_getElem? hp)
theorem shp_cases {e : RE} (h : e.shp = true) : (e.kind = 0) ∨ (e.kind = 1) ∨ (e.kind = 2 ∧ e.set.length ≤ 20 ∧ mayB e.set = true) ∨ (e.kind = 3 ∧ e.parts.length = 2) ∨ (e.kind = 4 ∧ e.parts.length = 2) ∨ (e.kind = 5 ∧ e.parts.length = 1) := by
  unfold shp at h
  by_cases k2 : e.kind = 2
  · rw [if_pos k2] at h; simp at h; exact .inr (.inr (.inl ⟨k2, h.2.1, h.2.2.1⟩))
  · rw [if_neg k2] at h
    split at h
    · cases h
    · split at h
      · omega
      · split at h
        · rename_i k5; simp at h; omega
        · split at h
          · rename_i k34; simp at h; omega
          · cases h
end RE
theorem may_rok {l : List (Int × Int)} (h : mayB l = true) : ∀ x ∈ l, ROK x := by
  intro x hx
  obtain ⟨i, hi, rfl⟩ := List.getElem_of_mem hx
  have := ((mayB_iff l).1 h i hi).1
  have e : l.getD i (0, 0) = l[i] := by simp [List.getD, hi]
  rw [e] at this
  unfold okR at this
  simp [scal] at this
  unfold ROK
  omega
theorem re_size : ∀ (N : Nat) (e : RE), e.size ≤ N → e.prt = true → e.text.size ≤ 500 * e.size := by
  intro N
  induction N with
  | zero => intro e h; have := e.size_pos; omega
  | succ N ih =>
    intro e hs hp
    have hpos := e.size_pos
    have hpart : ∀ (i : Nat) (p : RE), e.parts[i]? = some p → p.text.size ≤ 500 * p.size := fun i p hip => ih p (by have := RE.size_part hip; omega) (RE.prt_part hp hip)
    have hsz : e.size = RE.sizes e.parts + 1 := by cases e; rw [RE.size_mk]; rfl
    rw [RE.text_eq]
    rcases RE.shp_cases (RE.prt_shp hp) with k | k | ⟨k, h1, h2⟩ | ⟨k, h1⟩ | ⟨k, h1⟩ | ⟨k, h1⟩
    all_goals (unfold nodeB; rw [k])
    · simp; show 2 ≤ _; omega
    · simp; show 2 ≤ _; omega
    · simp
      have := setB_size (may_rok h2)
      omega
    · match hl : e.parts, h1 with
      | [a, b], _ =>
        rw [hl] at hpart hsz
        have ha := hpart 0 a rfl
        have hb := hpart 1 b rfl
        rw [RE.sizes_cons, RE.sizes_cons, RE.sizes_nil] at hsz
        have x := hold_size a.text ([4].contains a.kind)
        have y := hold_size b.text ([4, 3].contains b.kind)
        simp at x y ⊢
        omega
    · match hl : e.parts, h1 with
      | [a, b], _ =>
        rw [hl] at hpart hsz
        have ha := hpart 0 a rfl
        have hb := hpart 1 b rfl
        rw [RE.sizes_cons, RE.sizes_cons, RE.sizes_nil] at hsz
        have x := hold_size a.text false
        have y := hold_size b.text ([4].contains b.kind)
        simp [ByteArray.size_append] at x y ⊢
        have : (⟨#[124]⟩ : ByteArray).size = 1 := rfl
        omega
    · match hl : e.parts, h1 with
      | [a], _ =>
        rw [hl] at hpart hsz
        have ha := hpart 0 a rfl
        rw [RE.sizes_cons, RE.sizes_nil] at hsz
        have x := hold_size a.text ([3, 4].contains a.kind)
        simp [ByteArray.size_append] at x ⊢
        have : (⟨#[42]⟩ : ByteArray).size = 1 := rfl
        omega
theorem held_any (t : ByteArray) (m : Bool) (w : World) (ht : t.size ≤ 1000000000) : Calls Tryz.prog 113 #[.string t, .bool m] w fun e w' => e = .returned (.string (hold t m)) ∧ w' = w := by
  have hu1 : ¬ 9223372036854775807 < 1 + t.size := by omega
  have hu2 : ¬ 9223372036854775807 < 1 + t.size + 1 := by omega
  clear ht
  cases m with
  | true =>
    go_enter Tryz.func113, Tryz.ntmps113
    go_wp2_with fail
    go_ret
    exact ⟨rfl, rfl⟩
  | false =>
    go_enter Tryz.func113, Tryz.ntmps113
    go_wp2_with fail
    go_ret
    exact ⟨rfl, rfl⟩
theorem containsI_any (zs : List Int) (v : Value) (x : Int) (w : World) (hr : Row w v zs.length (zs.map (Value.int .i64))) (hn : zs.length ≤ 1000) :
    Calls Tryz.prog 114 #[v, .int .i64 x] w fun e w' => e = .returned (.bool (zs.contains x)) ∧ w' = w := by
  obtain ⟨o, c, rfl, hc, hm, hrr⟩ := hr
  rcases hrr with ⟨h0, -⟩ | ⟨b, off, rfl, hlt, hcell⟩
  · have hl0 : zs = [] := List.eq_nil_of_length_eq_zero h0
    subst hl0
    exact Tryz.slices_Contains_int_empty o c x w
  · refine (Tryz.slices_Contains_int b off _ c zs x w (Nat.le_refl _) (by omega) (fun j hj => ?_)).mono ?_
    · exact hcell j _ (by simp [List.getD, hj])
    · rintro e w' ⟨rfl, rfl⟩
      rw [List.take_length]
      exact ⟨rfl, rfl⟩
end Go.Proofs.YtahckikemljlnaaGreatDoor

namespace Go.Proofs.YtahckikemljlnaaGreatDoor
open Go.RowKit Ru

theorem cell3_of {w : World} {p : Nat} {a b c : Value} {t : TypeId} (h : w.heap[p]? = some (.cells #[a, b, c] t (0, 0))) : w.cell? ⟨p, 0, none⟩ = some a ∧ w.cell? ⟨p, 1, none⟩ = some b ∧ w.cell? ⟨p, 2, none⟩ = some c := by
  simp [World.cell?, h]
def ExIH (N : Nat) : Prop := ∀ (e : RE) (sv lv : Value) (w : World), e.size ≤ N → e.size ≤ 1000 → e.prt = true → ReIs w e sv lv → TZ w →
  Calls Tryz.prog 63 #[.agg #[.int .i64 e.kind, sv, lv]] w fun x w' => x = .returned (.string e.text) ∧ Below w.heap.size w w'
set_option maxHeartbeats 4000000 in
set_option maxRecDepth 100000 in
theorem exPart_any (N : Nat) (ih : ExIH N) (e p : RE) (i q : Nat) (sv lv kv : Value) (zs : List Int) (w : World) (hp : e.parts[i]? = some p) (hpl : e.parts.length ≤ 1000) (hs : p.size ≤ N) (hs2 : p.size ≤ 1000) (hpr : p.prt = true) (hr : ReIs w e sv lv) (hT : TZ w)
    (hq : w.heap[q]? = some (.cells #[.int .i64 e.kind, sv, lv] 35 (0, 0))) (hk : Row w kv zs.length (zs.map (Value.int .i64))) (hz : zs.length ≤ 1000) :
    Calls Tryz.prog 112 #[.int .i64 i, kv, .pointer (some ⟨q, 0, none⟩)] w fun x w' => x = .returned (.string (hold p.text (zs.contains p.kind))) ∧ Below w.heap.size w w' := by
  obtain ⟨b, off, cap, s', l', rfl, hb, z0, z1, z2, hpi⟩ := hr.part hp
  have hi : i < e.parts.length := (List.getElem?_eq_some_iff.1 hp).1
  obtain ⟨n, hn⟩ : ∃ n, n = e.parts.length := ⟨_, rfl⟩
  obtain ⟨-, -, c2⟩ := cell3_of hq
  rw [← hn] at c2 hi hpl
  obtain ⟨ι, K, hne, hkb, hks⟩ := kept_family w
  have KB := Lib.hid hkb
  have kS := hks _ (Below.refl _ _).drew
  have hsz := re_size p.size p (Nat.le_refl _) hpr
  obtain ⟨t, ht⟩ : ∃ t, t = p.text := ⟨_, rfl⟩
  obtain ⟨k, hkk⟩ : ∃ k, k = p.kind := ⟨_, rfl⟩
  obtain ⟨m, hm⟩ : ∃ m, m = zs.contains p.kind := ⟨_, rfl⟩
  have h1 := fun i => ih p s' l' (K i) hs hs2 hpr (hpi.moved (hkb i)) (hT.moved (hkb i))
  have h2 := fun i => containsI_any zs kv p.kind (K i) (hk.below (hkb i)) hz
  rw [← ht, ← hkk] at h1
  rw [← hkk] at z0
  rw [← hm, ← hkk] at h2
  rw [← ht] at hsz
  rw [← hm, ← ht]
  have h3 := fun i => held_any t m (K i) (by omega)
  have HX := Lib.hid (fun i => calls_kept hkb hks (i := i) (h1 i))
  have HC := Lib.hid (fun i => calls_kept hkb hks (i := i) ((h2 i).mono (fun e w' h => ⟨h.1, by rw [h.2]; exact Below.refl _ _⟩)))
  have HH := Lib.hid (fun i => calls_kept hkb hks (i := i) ((h3 i).mono (fun e w' h => ⟨h.1, by rw [h.2]; exact Below.refl _ _⟩)))
  have j0 : ∀ i, (K i).cell? ⟨q, 2, none⟩ = some (.slice (some ⟨b, off, none⟩) n cap) := fun i => cell_later (hkb i) c2
  have j1 : ∀ ii, (K ii).cell? ⟨b, off + i * 3, none⟩ = some (.int .i64 k) := fun i => cell_later (hkb i) z0
  have j2 : ∀ ii, (K ii).cell? ⟨b, off + i * 3 + 1, none⟩ = some s' := fun i => cell_later (hkb i) z1
  have j3 : ∀ ii, (K ii).cell? ⟨b, off + i * 3 + 2, none⟩ = some l' := fun i => cell_later (hkb i) z2
  obtain ⟨⟨o1, q1, rfl⟩, ⟨o2, q2, rfl⟩⟩ := hpi.form
  rw [← hn] at *
  have hi1 : (0 : Int) ≤ (i : Int) := by omega
  have hi2 : (i : Int) < (n : Int) := by omega
  have hi3 : ((i : Int)).toNat = i := by simp
  clear hkb hks h1 h2 h3 ht hkk hm hsz z0 z1 z2 c2 hq hk hr hT hpi hp hpr hs hs2 hz ih hn
  go_enter Tryz.func112, Tryz.ntmps112
  go_upto_region 1 with (fail)
  refine region_kept K (by kernel_rfl) (by kernel_rfl) kS ?_
  repeat (go_big_quiet_step (with_reducible first | exact HX.out _ | exact HC.out _ | exact HH.out _))
  refine wpQuiet_nil ?_
  rintro _ ⟨iw, rfl⟩
  have HB6 := Lib.hid (KB.out iw)
  go_wp2_with fail
  go_ret
  exact ⟨rfl, HB6.out⟩
theorem rowI_new (w : World) (cs : Array Value) (b : Nat) (hb : b = w.heap.size) (zs : List Int) (n : Nat) (hcs : cs = (zs.map (Value.int .i64)).toArray) (h : zs.length = n) (hn : n ≤ 1000) : Row (w.alloc (.cells cs 3)) (.slice (some ⟨b, 0, none⟩) n n) zs.length (zs.map (Value.int .i64)) := by
  subst h
  subst hb
  subst hcs
  refine ⟨_, _, rfl, Nat.le_refl _, by unfold maxLen; omega, .inr ⟨w.heap.size, 0, rfl, by simp, fun j u hu => ?_⟩⟩
  rw [Nat.zero_add, World.cell?_alloc_mark]
  simpa using hu
theorem rowI_nil (w : World) : Row w (.slice none 0 0) ([] : List Int).length (([] : List Int).map (Value.int .i64)) := ⟨none, 0, rfl, Nat.le_refl _, by decide, .inl ⟨rfl, fun _ => rfl⟩⟩
theorem box_kept {w w' : World} {o : Obj} (hb : Below (w.alloc o).heap.size (w.alloc o) w') : w'.heap[w.heap.size]? = some o := by
  rw [hb.block _ (by simp)]
  exact heap_alloc_new w o
set_option maxHeartbeats 8000000 in
set_option maxRecDepth 100000 in
theorem expr_step (N : Nat) (ih : ExIH N) : ExIH (N + 1) := by
  intro e sv lv w hs hs2 hpr hr hT
  have hpart : ∀ (i : Nat) (iv : Int) (p : RE) (zs : List Int) (kv : Value) (w' : World), iv = (i : Int) → e.parts[i]? = some p → e.parts.length ≤ 1000 → zs.length ≤ 1000 → Below w.heap.size w w' → w'.heap[w.heap.size]? = some (.cells #[.int .i64 e.kind, sv, lv] 35 (0, 0)) → Row w' kv zs.length (zs.map (Value.int .i64)) →
      Calls Tryz.prog 112 #[.int .i64 iv, kv, .pointer (some ⟨w.heap.size, 0, none⟩)] w' fun x w'' => x = .returned (.string (hold p.text (zs.contains p.kind))) ∧ Below w'.heap.size w' w'' := fun i iv p zs kv w' hiv hp hpl hz hb hq hk => hiv ▸
    exPart_any N ih e p i w.heap.size sv lv kv zs w' hp hpl (by have := RE.size_part hp; omega) (by have := RE.size_part hp; omega) (RE.prt_part hpr hp) (hr.moved hb) (hT.moved hb) hq hk hz
  have hte := RE.text_eq e
  have hsz := re_size e.size e (Nat.le_refl _) hpr
  have hset := hr.set
  obtain ⟨⟨o1, q1, rfl⟩, ⟨o2, q2, rfl⟩⟩ := hr.form
  obtain ⟨t, ht⟩ : ∃ t, t = e.text := ⟨_, rfl⟩
  rw [← ht] at hte hsz ⊢
  rcases RE.shp_cases (RE.prt_shp hpr) with k | k | ⟨k, h1, h2⟩ | ⟨k, h1⟩ | ⟨k, h1⟩ | ⟨k, h1⟩
  · rw [k] at hte ⊢
    obtain ⟨a, ha⟩ : ∃ a, a = e.set.length := ⟨_, rfl⟩
    obtain ⟨b, hb⟩ : ∃ b, b = e.parts.length := ⟨_, rfl⟩
    rw [← ha, ← hb]
    have HX := Lib.hid (show t = ⟨#[91, 93]⟩ by rw [hte]; rfl)
    clear hpart hte hsz hset hs hs2 hpr hr hT ht k ha hb ih
    go_enter Tryz.func63, Tryz.ntmps63
    go_wp2_with fail
    go_ret
    exact ⟨by rw [HX.out]; rfl, by repeat (first | exact Below.refl _ _ | (refine bel_new ?_ _))⟩
  · rw [k] at hte ⊢
    obtain ⟨a, ha⟩ : ∃ a, a = e.set.length := ⟨_, rfl⟩
    obtain ⟨b, hb⟩ : ∃ b, b = e.parts.length := ⟨_, rfl⟩
    rw [← ha, ← hb]
    have HX := Lib.hid (show t = ⟨#[40, 41]⟩ by rw [hte]; rfl)
    clear hpart hte hsz hset hs hs2 hpr hr hT ht k ha hb ih
    go_enter Tryz.func63, Tryz.ntmps63
    go_wp2_with fail
    go_ret
    exact ⟨by rw [HX.out]; rfl, by repeat (first | exact Below.refl _ _ | (refine bel_new ?_ _))⟩
  · have hps := fun w' (hb : Below w.heap.size w w') => prSet_any e.set _ w' (hset.below hb) (may_rok h2) (by omega) (hT.moved hb)
    rw [k] at hte ⊢
    have HX := Lib.hid (show t = setB e.set by rw [hte]; rfl)
    obtain ⟨b, hb⟩ : ∃ b, b = e.parts.length := ⟨_, rfl⟩
    obtain ⟨a, ha⟩ : ∃ a, a = e.set.length := ⟨_, rfl⟩
    rw [← ha] at hps
    rw [← ha, ← hb]
    have HP := Lib.hid hps
    clear hpart hte hsz hset hs hs2 hpr hr hT ht k ha hb ih hps h1 h2
    go_enter Tryz.func63, Tryz.ntmps63
    go_wp2_with fail
    refine (HP.out _ (bel_new (Below.refl _ _) _)).mono ?_
    rintro x w2 ⟨rfl, hb2⟩
    have HB2 := Lib.hid (bel_then (bel_new (Below.refl w.heap.size w) _) hb2)
    clear hb2
    go_wp2_with fail
    go_ret
    exact ⟨by rw [HX.out]; rfl, HB2.out⟩
  · match hl : e.parts, h1 with
    | [x, y], _ =>
      have g0 := fun kv w' hb => hpart 0 0 x [4] kv w' rfl (by rw [hl]; rfl) (by rw [hl]; simp) (by decide) hb
      have g1 := fun kv w' hb => hpart 1 1 y [4, 3] kv w' rfl (by rw [hl]; rfl) (by rw [hl]; simp) (by decide) hb
      rw [hl] at hte
      have hln : e.parts.length = 2 := by rw [hl]; rfl
      rw [k] at hte ⊢
      simp only [k, hl, List.length_cons, List.length_nil, Nat.zero_add, Nat.reduceAdd] at g0 g1 ⊢
      obtain ⟨a, ha⟩ : ∃ a, a = e.set.length := ⟨_, rfl⟩
      rw [← ha] at g0 g1 ⊢
      have hteq : t = hold x.text ([4].contains x.kind) ++ hold y.text ([4, 3].contains y.kind) := by rw [hte]; rfl
      obtain ⟨A, hA⟩ : ∃ z, z = hold x.text ([4].contains x.kind) := ⟨_, rfl⟩
      obtain ⟨C, hC⟩ : ∃ z, z = hold y.text ([4, 3].contains y.kind) := ⟨_, rfl⟩
      rw [← hA] at g0
      rw [← hC] at g1
      rw [← hA, ← hC] at hteq
      have G0 := Lib.hid (fun kv w' (hb : Below (w.alloc (.cells #[.int .i64 3, .slice o1 a q1, .slice o2 2 q2] 35)).heap.size (w.alloc (.cells #[.int .i64 3, .slice o1 a q1, .slice o2 2 q2] 35)) w') hk => g0 kv w' (bel_then ((Below.refl w.heap.size w).alloc (Nat.le_refl _) _) hb) (box_kept hb) hk)
      have G1 := Lib.hid (fun kv w' (hb : Below (w.alloc (.cells #[.int .i64 3, .slice o1 a q1, .slice o2 2 q2] 35)).heap.size (w.alloc (.cells #[.int .i64 3, .slice o1 a q1, .slice o2 2 q2] 35)) w') hk => g1 kv w' (bel_then ((Below.refl w.heap.size w).alloc (Nat.le_refl _) _) hb) (box_kept hb) hk)
      have hts : t.size ≤ 500000 := by omega
      rw [hteq] at hts
      simp only [ByteArray.size_append] at hts
      have hu0 : ¬ 9223372036854775807 < A.size + C.size := by omega
      have HX := Lib.hid hteq
      clear hpart hte hsz hset hs hs2 hpr hr hT ht k ha hl hln ih hteq hts g0 g1 hA hC
      go_enter Tryz.func63, Tryz.ntmps63
      go_wp2_with fail
      refine (G0.out _ _ ((Below.refl _ _).alloc (Nat.le_refl _) _) (rowI_new _ _ _ (by simp) [4] 1 rfl rfl (by decide))).mono ?_
      rintro z w3 ⟨rfl, hb3⟩
      have HB3 := Lib.hid (bel_then (show Below (w.alloc (.cells #[.int .i64 3, .slice o1 a q1, .slice o2 2 q2] 35)).heap.size (w.alloc (.cells #[.int .i64 3, .slice o1 a q1, .slice o2 2 q2] 35)) _ from ((Below.refl _ _).alloc (Nat.le_refl _) _)) hb3)
      clear hb3
      go_wp2_with fail
      refine (G1.out _ _ (HB3.out.alloc HB3.out.size _) (rowI_new _ _ _ (by simp) [4, 3] 2 rfl rfl (by decide))).mono ?_
      rintro z w4 ⟨rfl, hb4⟩
      have HB4 := Lib.hid (bel_then (show Below (w.alloc (.cells #[.int .i64 3, .slice o1 a q1, .slice o2 2 q2] 35)).heap.size (w.alloc (.cells #[.int .i64 3, .slice o1 a q1, .slice o2 2 q2] 35)) _ from (HB3.out.alloc HB3.out.size _)) hb4)
      clear hb4
      go_wp2_with fail
      go_ret
      exact ⟨by rw [HX.out]; rfl, bel_then ((Below.refl w.heap.size w).alloc (Nat.le_refl _) _) HB4.out⟩
  · match hl : e.parts, h1 with
    | [x, y], _ =>
      have g0 := fun kv w' hb => hpart 0 0 x [] kv w' rfl (by rw [hl]; rfl) (by rw [hl]; simp) (by decide) hb
      have g1 := fun kv w' hb => hpart 1 1 y [4] kv w' rfl (by rw [hl]; rfl) (by rw [hl]; simp) (by decide) hb
      rw [hl] at hte
      have hln : e.parts.length = 2 := by rw [hl]; rfl
      rw [k] at hte ⊢
      simp only [k, hl, List.length_cons, List.length_nil, Nat.zero_add, Nat.reduceAdd] at g0 g1 ⊢
      obtain ⟨a, ha⟩ : ∃ a, a = e.set.length := ⟨_, rfl⟩
      rw [← ha] at g0 g1 ⊢
      have hteq : t = (hold x.text (([] : List Int).contains x.kind) ++ ⟨#[124]⟩) ++ hold y.text ([4].contains y.kind) := by rw [hte]; rfl
      obtain ⟨A, hA⟩ : ∃ z, z = hold x.text (([] : List Int).contains x.kind) := ⟨_, rfl⟩
      obtain ⟨C, hC⟩ : ∃ z, z = hold y.text ([4].contains y.kind) := ⟨_, rfl⟩
      rw [← hA] at g0
      rw [← hC] at g1
      rw [← hA, ← hC] at hteq
      have G0 := Lib.hid (fun kv w' (hb : Below (w.alloc (.cells #[.int .i64 4, .slice o1 a q1, .slice o2 2 q2] 35)).heap.size (w.alloc (.cells #[.int .i64 4, .slice o1 a q1, .slice o2 2 q2] 35)) w') hk => g0 kv w' (bel_then ((Below.refl w.heap.size w).alloc (Nat.le_refl _) _) hb) (box_kept hb) hk)
      have G1 := Lib.hid (fun kv w' (hb : Below (w.alloc (.cells #[.int .i64 4, .slice o1 a q1, .slice o2 2 q2] 35)).heap.size (w.alloc (.cells #[.int .i64 4, .slice o1 a q1, .slice o2 2 q2] 35)) w') hk => g1 kv w' (bel_then ((Below.refl w.heap.size w).alloc (Nat.le_refl _) _) hb) (box_kept hb) hk)
      have hts : t.size ≤ 500000 := by omega
      rw [hteq] at hts
      simp only [ByteArray.size_append] at hts
      have hu0 : ¬ 9223372036854775807 < A.size + 1 := by omega
      have hu1 : ¬ 9223372036854775807 < A.size + 1 + C.size := by omega
      have HX := Lib.hid hteq
      clear hpart hte hsz hset hs hs2 hpr hr hT ht k ha hl hln ih hteq hts g0 g1 hA hC
      go_enter Tryz.func63, Tryz.ntmps63
      go_wp2_with fail
      refine (G0.out _ _ (Below.refl _ _) (rowI_nil _)).mono ?_
      rintro z w3 ⟨rfl, hb3⟩
      have HB3 := Lib.hid (bel_then (show Below (w.alloc (.cells #[.int .i64 4, .slice o1 a q1, .slice o2 2 q2] 35)).heap.size (w.alloc (.cells #[.int .i64 4, .slice o1 a q1, .slice o2 2 q2] 35)) _ from (Below.refl _ _)) hb3)
      clear hb3
      go_wp2_with fail
      refine (G1.out _ _ (HB3.out.alloc HB3.out.size _) (rowI_new _ _ _ (by simp) [4] 1 rfl rfl (by decide))).mono ?_
      rintro z w4 ⟨rfl, hb4⟩
      have HB4 := Lib.hid (bel_then (show Below (w.alloc (.cells #[.int .i64 4, .slice o1 a q1, .slice o2 2 q2] 35)).heap.size (w.alloc (.cells #[.int .i64 4, .slice o1 a q1, .slice o2 2 q2] 35)) _ from (HB3.out.alloc HB3.out.size _)) hb4)
      clear hb4
      go_wp2_with fail
      go_ret
      exact ⟨by rw [HX.out]; rfl, bel_then ((Below.refl w.heap.size w).alloc (Nat.le_refl _) _) HB4.out⟩
  · match hl : e.parts, h1 with
    | [x], _ =>
      have g0 := fun kv w' hb => hpart 0 0 x [3, 4] kv w' rfl (by rw [hl]; rfl) (by rw [hl]; simp) (by decide) hb
      rw [hl] at hte
      have hln : e.parts.length = 1 := by rw [hl]; rfl
      rw [k] at hte ⊢
      simp only [k, hl, List.length_cons, List.length_nil, Nat.zero_add, Nat.reduceAdd] at g0 ⊢
      obtain ⟨a, ha⟩ : ∃ a, a = e.set.length := ⟨_, rfl⟩
      rw [← ha] at g0 ⊢
      have hteq : t = hold x.text ([3, 4].contains x.kind) ++ ⟨#[42]⟩ := by rw [hte]; rfl
      obtain ⟨A, hA⟩ : ∃ z, z = hold x.text ([3, 4].contains x.kind) := ⟨_, rfl⟩
      rw [← hA] at g0
      rw [← hA] at hteq
      have G0 := Lib.hid (fun kv w' (hb : Below (w.alloc (.cells #[.int .i64 5, .slice o1 a q1, .slice o2 1 q2] 35)).heap.size (w.alloc (.cells #[.int .i64 5, .slice o1 a q1, .slice o2 1 q2] 35)) w') hk => g0 kv w' (bel_then ((Below.refl w.heap.size w).alloc (Nat.le_refl _) _) hb) (box_kept hb) hk)
      have hts : t.size ≤ 500000 := by omega
      rw [hteq] at hts
      simp only [ByteArray.size_append] at hts
      have hu0 : ¬ 9223372036854775807 < A.size + 1 := by omega
      have HX := Lib.hid hteq
      clear hpart hte hsz hset hs hs2 hpr hr hT ht k ha hl hln ih hteq hts g0 hA
      go_enter Tryz.func63, Tryz.ntmps63
      go_wp2_with fail
      refine (G0.out _ _ ((Below.refl _ _).alloc (Nat.le_refl _) _) (rowI_new _ _ _ (by simp) [3, 4] 2 rfl rfl (by decide))).mono ?_
      rintro z w3 ⟨rfl, hb3⟩
      have HB3 := Lib.hid (bel_then (show Below (w.alloc (.cells #[.int .i64 5, .slice o1 a q1, .slice o2 1 q2] 35)).heap.size (w.alloc (.cells #[.int .i64 5, .slice o1 a q1, .slice o2 1 q2] 35)) _ from ((Below.refl _ _).alloc (Nat.le_refl _) _)) hb3)
      clear hb3
      go_wp2_with fail
      go_ret
      exact ⟨by rw [HX.out]; rfl, bel_then ((Below.refl w.heap.size w).alloc (Nat.le_refl _) _) HB3.out⟩
theorem expr_any (e : RE) (sv lv : Value) (w : World) (hs : e.size ≤ 1000) (hpr : e.prt = true) (hr : ReIs w e sv lv) (hT : TZ w) :
    Calls Tryz.prog 63 #[.agg #[.int .i64 e.kind, sv, lv]] w fun x w' => x = .returned (.string e.text) ∧ Below w.heap.size w w' := by
  have : ∀ N, ExIH N := by
    intro N
    induction N with
    | zero => intro e sv lv w h; have := e.size_pos; omega
    | succ N ih => exact expr_step N ih
  exact this e.size e sv lv w (Nat.le_refl _) hs hpr hr hT
end Go.Proofs.YtahckikemljlnaaGreatDoor
