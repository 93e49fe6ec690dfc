/- regex.Is of an expression that may be; gobolaw6.Text. -/
import Derived.Test.YtmgfpcblbbpahaaGreatNfRead
import Derived.Test.YtmgfpcblbbpahaaGreatNfLaw0
set_option linter.unusedVariables false
set_option linter.unusedSimpArgs false
namespace Go.Proofs.YtmgfpcblbbpahaaGreat
open Go.RowKit Ru

/-- the nodes are as the expression is -/
def Shp : RE → FT → Prop
  | e, .leaf _ _ => e.parts = []
  | e, .one _ _ a => ∃ ea, e.parts = [ea] ∧ Shp ea a
  | e, .two _ _ a b => ∃ ea eb, e.parts = [ea, eb] ∧ Shp ea a ∧ Shp eb b
theorem Nd.shp {w0 w : World} : ∀ {t : FT} {e : RE}, Nd w0 w e t → Shp e t := by
  intro t
  induction t with
  | leaf q f => intro e h; exact h.1
  | one q f a ih => intro e h; obtain ⟨ea, h1, _, h3⟩ := h; exact ⟨ea, h1, ih h3⟩
  | two q f a b iha ihb => intro e h; obtain ⟨ea, eb, h1, _, h3, h4⟩ := h; exact ⟨ea, eb, h1, iha h3, ihb h4⟩
/-- the nodes behind k runes -/
def runK (e : RE) (t : FT) (s : List Int) : Nat → FT
  | 0 => t
  | k + 1 => rd e (runK e t s k) (decide (k = 0)) (s.getD k 0)
theorem runK_q (e : RE) (t : FT) (s : List Int) (k : Nat) : (runK e t s k).q = t.q := by
  induction k with
  | zero => rfl
  | succ k ih => rw [runK, rd_q, ih]
theorem runK_blks (e : RE) (t : FT) (s : List Int) (k : Nat) : (runK e t s k).blks = t.blks := by
  induction k with
  | zero => rfl
  | succ k ih => rw [runK, rd_blks, ih]
/-- is the text of it -/
def isF (e : RE) (t : FT) (s : List Int) (k : Nat) : Bool := if k = 0 then e.emp else (runK e t s k).f
abbrev i32R (s : List Int) : List Value := s.map (Value.int .i32)
set_option maxRecDepth 100000 in
set_option maxHeartbeats 4000000 in
theorem is_any (e : RE) (sv lv : Value) (w : World) (hr : ReIs w e sv lv) (hf : e.Fit) (hm : e.may = true) (s : List Int) (v : Value) (hs : Row w v s.length (i32R s)) (hsl : s.length ≤ 1000) :
    Calls Tryz.prog 16 #[.agg #[.int .i64 e.kind, sv, lv], v] w fun x w' => (∃ t : FT, Shp e t ∧ t.clean ∧ t.blks.Nodup ∧ x = .returned (.bool (isF e t s s.length))) ∧ Below w.heap.size w w' := by
  have hmi := (RE.may_iff e).1 hm
  have hmay := fun W (hb : Below w.heap.size w W) => reMay_any e _ _ W (hr.moved hb) hf
  rw [hm] at hmay
  have hmk := fun W (hb : Below w.heap.size w W) => markD_any w e.size e sv lv W (Nat.le_refl _) hf (RE.may_wf hm) hmi.2.2 hr hb
  have hrd := fun (W : World) (t : FT) (hn : Nd w W e t) (hd : t.blks.Nodup) (hb : Below w.heap.size w W) (en : Bool) (r : Int) => read_all w e.size e t (Nat.le_refl _) hmi.2.2 W hn hd hb en r
  obtain ⟨⟨o1, q1, rfl⟩, ⟨o2, q2, rfl⟩⟩ := hr.form
  obtain ⟨os, cs, rfl⟩ := Row.form hs
  have HM := Lib.hid hmay
  have HK := Lib.hid hmk
  have HR := Lib.hid hrd
  have HS := Lib.hid hs
  clear hmay hmk hrd hr hf hm hs
  go_enter Tryz.func16, Tryz.ntmps16
  go_wp2_with (first
    | (go_at_call 25; refine (HM.out _ (bel_new (Below.refl _ _) _)).mono ?_; rintro x w2 ⟨rfl, hb2⟩
       have hE2 := bel_get hb2 (heap_alloc_new w _)
       obtain ⟨y0, y1, y2⟩ : w2.cell? ⟨w.heap.size, 0, none⟩ = some (.int .i64 e.kind) ∧ w2.cell? ⟨w.heap.size, 1, none⟩ = some (.slice o1 e.set.length q1) ∧ w2.cell? ⟨w.heap.size, 2, none⟩ = some (.slice o2 e.parts.length q2) := by simp [World.cell?, hE2]
       have hbw : Below w.heap.size w w2 := bel_then (bel_new (Below.refl _ _) _) hb2
       have HB := Lib.hid hbw
       clear hE2 hb2 hbw)
    | fail)
  refine (HK.out w2 HB.out).mono ?_
  rintro x w3 ⟨t, rfl, hd, hb3⟩
  have ht3 := hd.kp.here.fin.2
  have hlow := hd.low
  have hws := HB.out.size
  have HD := Lib.hid hd
  have HB3 := Lib.hid (bel_then HB.out hb3)
  have HLOW := Lib.hid (show ∀ k, k < w.heap.size → k ∉ t.blks from fun k hk hin => by have := hlow k hin; omega)
  clear hd hb3 hlow y0 y1 y2
  go_wp2_with fail
  clear ht3
  have hH0 : Nd w w3 e (runK e t s 0) := HD.out.kp.here
  have H0 := Lib.hid hH0
  clear hH0
  go_loopg [6, 20] s.length (fun g s6 s20 wx => ∃ k : Nat, k + g = s.length ∧ s20 = .int .i64 (k : Int) ∧ s6 = .bool (isF e t s k) ∧ Nd w wx e (runK e t s k) ∧ Below w.heap.size w wx)
  case atStart => exact ⟨0, by omega, rfl, rfl, H0.out, HB3.out⟩
  case round =>
    obtain ⟨k, hk, rfl, rfl, hnd, hbx⟩ := hrel
    by_cases hlt : k < s.length
    · obtain ⟨g1, hg1⟩ : ∃ g1, g1 + 1 = gk := ⟨gk - 1, by omega⟩
      have hd1 : (k : Int) < (s.length : Int) := by omega
      obtain ⟨b, off, rfl, hbl, hcl⟩ := adrow_at HS.out (i := k) (u := .int .i32 (s.getD k 0)) (by rw [List.getElem?_map, List.getElem?_eq_getElem hlt, List.getD_eq_getElem?_getD, List.getElem?_eq_getElem hlt]; rfl) hlt
      rw [← hbx.cell (p := ⟨b, off + k, none⟩) hbl] at hcl
      obtain ⟨sk, hsk⟩ : ∃ sk, sk = s.getD k 0 := ⟨_, rfl⟩
      rw [← hsk] at hcl
      have hrdk := HR.out wr _ hnd (by rw [runK_blks]; exact HD.out.nodup) hbx (decide (k = 0)) sk
      rw [runK_q] at hrdk
      have hnx : rd e (runK e t s k) (decide (k = 0)) sk = runK e t s (k + 1) := by rw [hsk]; rfl
      have HRK := Lib.hid hrdk
      have HNX := Lib.hid hnx
      have HBX := Lib.hid hbx
      have hk0 : ((k : Int) == 0) = decide (k = 0) := by
        by_cases h : k = 0
        · subst h; rfl
        · rw [decide_eq_false h]; simp; omega
      clear hrdk hnx hnd hbx hsk
      go_wp2_with fail
      refine HRK.out.mono ?_
      rintro x w5 ⟨⟨y, rfl⟩, h5, g5⟩
      rw [HNX.out] at h5
      have hf5 := h5.fin.1
      rw [runK_q] at hf5
      have hb5 : Below w.heap.size w w5 := HBX.out.trans (g5.below HBX.out.size fun j hj => by rw [runK_blks]; exact HLOW.out j hj)
      have H5 := Lib.hid (And.intro h5 hb5)
      have hif : isF e t s (k + 1) = (runK e t s (k + 1)).f := by unfold isF; rw [if_neg (by omega)]
      rw [← hif] at hf5
      clear h5 hb5 g5 hif
      go_wp2_with fail
      go_roundg g1
      case measure => omega
      case rel => exact ⟨k + 1, by omega, by simp, rfl, H5.out⟩
    · obtain rfl : k = s.length := by omega
      have HBX := Lib.hid hbx
      clear hnd hbx
      go_wp2_with fail
      go_ret
      exact ⟨⟨t, HD.out.kp.here.shp, HD.out.cl, HD.out.nodup, rfl⟩, HBX.out⟩
/-- a rune of a made-up text -/
def rnF (z : Int) : Int := 97 + bits BinOp.and IntKind.i64 z 3
theorem bits_three (z : Int) : 0 ≤ bits BinOp.and IntKind.i64 z 3 ∧ bits BinOp.and IntKind.i64 z 3 ≤ 3 := by
  have h : ((BitVec.ofInt 64 z) &&& (BitVec.ofInt 64 3)).toNat = (BitVec.ofInt 64 z).toNat % 4 := by
    rw [BitVec.toNat_and]; exact Nat.and_two_pow_sub_one_eq_mod _ 2
  have e : bits BinOp.and IntKind.i64 z 3 = IntKind.i64.wrap ((((BitVec.ofInt 64 z) &&& (BitVec.ofInt 64 3)).toNat : Nat) : Int) := rfl
  rw [e, h]
  have h4 := Nat.mod_lt (BitVec.ofInt 64 z).toNat (show 0 < 4 by omega)
  obtain ⟨m, hm⟩ : ∃ m, m = (BitVec.ofInt 64 z).toNat % 4 := ⟨_, rfl⟩
  rw [← hm] at h4 ⊢
  rw [IntKind.wrap_i64]
  omega
/-- what gobolaw6.Text makes -/
def txF (l : List Int) (m : Nat) : List Int := (l.take m).map rnF
theorem infoI32 : ∃ i, Tryz.prog.info? 21 = some i ∧ i.zero = some (.int .i32 0) ∧ i.size = 1 ∧ i.bytes = 4 := info_parts (by kernel_rfl)
set_option maxRecDepth 100000 in
set_option maxHeartbeats 4000000 in
theorem text_any (l : List Int) (m : Nat) (hm : m ≤ 1000) (v : Value) (w : World) (hl : Row w v l.length (l.map (Value.int .i64))) :
    Calls Tryz.prog 14 #[v, .int .i64 m] w fun e w' => ∃ u, e = .returned u ∧ w'.ownsRow w.heap.size 21 1 u (txF l m).length (i32R (txF l m)) ∧ Below w.heap.size w w' := by
  obtain ⟨ii, hi0, hi1, hi2, hi3⟩ := infoI32
  obtain ⟨o0, c0, rfl⟩ := Row.form hl
  have HL := Lib.hid hl
  clear hl
  go_enter Tryz.func14, Tryz.ntmps14
  go_wp2_with fail
  go_loopg [5, 6] m (fun g s5 s6 wx => ∃ k : Nat, k + g = m ∧ k ≤ l.length ∧ s6 = .int .i64 (k : Int) ∧ wx.ownsRow w.heap.size 21 1 s5 (txF l k).length (i32R (txF l k)) ∧ Below w.heap.size w wx)
  case atStart => exact ⟨0, by omega, Nat.zero_le _, rfl, World.ownsRow_nil _ _ _ _, Below.refl _ _⟩
  case round =>
    obtain ⟨k, hk, hkl, rfl, hown, hbx⟩ := hrel
    obtain ⟨o, c, rfl⟩ := nf_slice hown
    have HOW := Lib.hid hown
    have HBX := Lib.hid hbx
    have htl : (txF l k).length = k := by unfold txF; simp; omega
    by_cases hlt : k < l.length ∧ k < m
    · obtain ⟨g1, hg1⟩ : ∃ g1, g1 + 1 = gk := ⟨gk - 1, by omega⟩
      obtain ⟨h1, h2⟩ := hlt
      have hd1 : decide ((k : Int) < (l.length : Int)) = true := by simp; omega
      have hd2 : decide ((k : Int) < (m : Int)) = true := by simp; omega
      have hd3 : (k : Int) < (l.length : Int) := by omega
      obtain ⟨z, hz⟩ : ∃ z, l[k]? = some z := ⟨l[k], List.getElem?_eq_getElem h1⟩
      obtain ⟨b, off, rfl, hbl, hcl⟩ := adrow_at HL.out (i := k) (u := .int .i64 z) (by rw [List.getElem?_map, hz]; rfl) h1
      rw [← hbx.cell (p := ⟨b, off + k, none⟩) hbl] at hcl
      have hb3 := bits_three z
      have hnx : txF l (k + 1) = txF l k ++ [97 + bits BinOp.and IntKind.i64 z 3] := by unfold txF rnF; rw [List.take_add_one, hz]; simp
      obtain ⟨y, hy⟩ : ∃ y, bits BinOp.and IntKind.i64 z 3 = y := ⟨_, rfl⟩
      rw [hy] at hb3 hnx
      obtain ⟨hy0, hy3⟩ := hb3
      have HNX := Lib.hid hnx
      have hbs := hbx.size
      clear hown hbx hnx hz
      go_wp2_with (at_builtin; refine wpList_append_far _ rfl _ _ 35 rfl w.heap.size 21 ii (.int .i32 0) 1 4 Tryz.underlying35 hi0 hi1 hi2 hi3 rfl (by decide) (.slice o (txF l k).length c) (txF l k).length (i32R (txF l k)) rfl (HOW.out.alloc _) _ 1 [.int .i32 (97 + y)] rfl (afrow_new rfl (by simp)) rfl (by simp [Value.oneCell']) (by unfold maxLen; omega) (by omega) (by simp; omega) ?_; intro v9 w9 hown9 hg9 hf9 hb9)
      have hn9 : w9.ownsRow w.heap.size 21 1 v9 (txF l (k + 1)).length (i32R (txF l (k + 1))) := by rw [HNX.out, List.length_append]; unfold i32R; rw [List.map_append]; exact hown9
      have hb79 : Below w.heap.size w w9 := bel_grown (HBX.out.alloc (by omega) _) hg9 (fun j hj => (HOW.out.lt j hj).1)
      go_roundg g1
      case measure => omega
      case rel => exact ⟨k + 1, by omega, by omega, by simp, hn9, hb79⟩
    · have htx : txF l m = txF l k := by
        unfold txF
        by_cases h4 : k < m
        · rw [List.take_of_length_le (show l.length ≤ m by omega), List.take_of_length_le (show l.length ≤ k by omega)]
        · rw [show m = k by omega]
      have HTX := Lib.hid htx
      clear hown hbx htx
      by_cases h4 : (k : Int) < (l.length : Int)
      · have hd2 : decide ((k : Int) < (m : Int)) = false := by simp; omega
        have hd3 : decide ((k : Int) < (l.length : Int)) = true := by simp; omega
        go_wp2_with fail
        go_ret
        refine ⟨_, rfl, ?_, HBX.out⟩
        rw [HTX.out]
        have h := HOW.out
        rw [htl] at h ⊢
        exact h
      · have hd3 : decide ((k : Int) < (l.length : Int)) = false := by simp; omega
        go_wp2_with fail
        go_ret
        refine ⟨_, rfl, ?_, HBX.out⟩
        rw [HTX.out]
        have h := HOW.out
        rw [htl] at h ⊢
        exact h
end Go.Proofs.YtmgfpcblbbpahaaGreat
