/- Merged. -/
import Derived.Test.YtfkmajjgkdjncaaGreatDoorPdTold
import Derived.IntWalk
set_option linter.unusedVariables false
set_option linter.unusedSimpArgs false
namespace Go.Proofs.YtfkmajjgkdjncaaGreatDoor
open Go.RowKit De Wd Ru
namespace Pm
section
variable {L : Its} {n : Nat} {cl : Nat → Nat → Cr}
theorem scanC_le {k j : Nat} (h : ScanC L k j) : k ≤ j := by
 induction h with
 | stop _ => omega
 | esc _ _ _ ih => omega
 | go _ _ _ _ ih => omega
end
end Pm
end Go.Proofs.YtfkmajjgkdjncaaGreatDoor

namespace Go.Proofs.YtfkmajjgkdjncaaGreatDoor
open Go.RowKit De Wd Ru
namespace Pm
end Pm
end Go.Proofs.YtfkmajjgkdjncaaGreatDoor

namespace Go.Proofs.YtfkmajjgkdjncaaGreatDoor
open Go.RowKit De Wd Ru
namespace Px
def val : Int → List Nat → Int
 | n, [] => n
 | n, d :: ds => val (n * 16 + d) ds
theorem val_le : ∀ (ds : List Nat) (n : Int), 0 ≤ n → n ≤ val n ds
 | [], n, _ => Int.le_refl _
 | d :: ds, n, h => by have := val_le ds (n * 16 + d) (by omega); show n ≤ val (n * 16 + d) ds; omega
def ScV (v : Int) : Prop := v ≤ 1114111 ∧ ¬ (55296 ≤ v ∧ v < 57344)
theorem num_digits (L : Its) : ∀ (ds : List Nat) (f c k : Nat) (n : Int), (∀ d ∈ ds, d < 16) → 0 ≤ n → n ≤ 1114111 → c + ds.length ≤ 6 → 1 ≤ c + ds.length → ds.length < f → At L k (ds.map hv ++ [125]) →
 (ScV (val n ds) → num L f c n k = .ok (val n ds, k + ds.length + 1)) ∧ (¬ ScV (val n ds) → ∃ j, num L f c n k = .error j) := by
 intro ds
 induction ds with
 | nil =>
  intro f c k n _ h0 h1 h2 h3 h4 hA
  obtain ⟨f, rfl⟩ : ∃ g, f = g + 1 := ⟨f - 1, by simp at h4; omega⟩
  have e : pk L k = 125 := hA.head
  have hc : c ≠ 0 := by simp at h3; omega
  simp only [num, val]
  rw [if_pos ⟨hc, e⟩]
  constructor
  · intro h; rw [if_neg h.2]; rfl
  · intro h; unfold ScV at h; rw [if_pos (by omega)]; exact ⟨_, rfl⟩
 | cons d ds ih =>
  intro f c k n hd h0 h1 h2 h3 h4 hA
  obtain ⟨f, rfl⟩ : ∃ g, f = g + 1 := ⟨f - 1, by simp at h4; omega⟩
  have e : pk L k = hv d := hA.head
  have hd1 : d < 16 := hd d (by simp)
  have hv := hv_ok hd1
  simp only [List.length_cons] at h2 h3 h4
  simp only [num]
  rw [e, if_neg (by intro hx; have := hx.2; omega), dg_hv hd1]
  by_cases hle : n * 16 + (d : Int) ≤ 1114111
  · rw [if_pos ⟨by omega, by simp [dok, dg_hv hd1]; omega⟩]
    have h := ih f (c + 1) (k + 1) (n * 16 + d) (fun x hx => hd x (by simp [hx])) (by omega) hle (by omega) (by omega) (by omega) hA.tail
    rw [show k + (d :: ds).length + 1 = k + 1 + ds.length + 1 by simp; omega]
    exact h
  · rw [if_neg (by intro hx; have := hx.2; simp [dok, dg_hv hd1] at this; omega)]
    have := val_le ds (n * 16 + d) (by omega)
    constructor
    · intro h; exfalso; have h9 : val (n * 16 + d) ds ≤ 1114111 := h.1; omega
    · intro _; exact ⟨_, rfl⟩
def numL (ds : List Nat) : List Int := 92 :: 117 :: 123 :: (ds.map hv ++ [125])
theorem numL_low {ds : List Nat} (hd : ∀ d ∈ ds, d < 16) : ∀ c ∈ numL ds, c < 128 := by
 intro c hc
 simp only [numL, List.mem_cons, List.mem_append, List.not_mem_nil, or_false, List.mem_map] at hc
 rcases hc with rfl | rfl | rfl | ⟨d, h, rfl⟩ | rfl
 · decide
 · decide
 · decide
 · have := hv_ok (hd d h); omega
 · decide
theorem numL_len {ds : List Nat} (h6 : ds.length = 6) : (numL ds).length = 10 := by simp [numL, h6]
theorem one_nrm {v : Int} (h0 : 0 ≤ v) (h : ScV v) : Ru.nrm [(v, v)] = [(v, v)] := by
 refine ((Ru.may_nrm _).1 ((Ru.mayB_iff _).2 ?_)).symm
 intro i hi
 have hi0 : i = 0 := by simp at hi; omega
 subst hi0
 unfold ScV at h
 simp [Ru.okR, Ru.scal]
 omega
theorem cls_num {ds : List Nat} (h6 : ds.length = 6) (hd : ∀ d ∈ ds, d < 16) :
 (ScV (val 0 ds) → clsF (all 0 (numL ds)) 10 = .ok [(val 0 ds, val 0 ds)]) ∧ (¬ ScV (val 0 ds) → ∃ z, clsF (all 0 (numL ds)) 10 = .bad z) := by
 have hasc : all 0 (numL ds) = asc 0 (numL ds) := all_asc _ _ (numL_low hd)
 rw [hasc]
 have hA : At (asc 0 (numL ds)) 0 (numL ds) := At.whole _ 0
 obtain ⟨L, hL⟩ : ∃ L, L = asc 0 (numL ds) := ⟨_, rfl⟩
 have hlen : L.length = 10 := by rw [hL, asc_len, numL_len h6]
 rw [← hL] at hA ⊢
 have e0 : pk L 0 = 92 := hA.head
 have e1 : pk L 1 = 117 := hA.tail.head
 have e2 : pk L 2 = 123 := hA.tail.tail.head
 have hB : At L 3 (ds.map hv ++ [125]) := hA.tail.tail.tail
 obtain ⟨g1, g2⟩ := num_digits L ds 7 0 3 0 hd (by omega) (by omega) (by omega) (by omega) (by omega) hB
 have hlt : lt L 0 = num L 7 0 0 3 := by
  unfold lt esc
  rw [e0, if_pos ⟨by decide, by decide⟩, if_pos rfl, show 0 + 1 = 1 from rfl, e1, if_pos ⟨by decide, by decide⟩, if_neg (by decide), if_neg (by decide), if_neg (by decide), if_pos rfl, show 1 + 1 = 2 from rfl, e2, if_pos ⟨by decide, by decide⟩]
 have h94 : decide (pk L 0 = 94) = false := by rw [e0]; rfl
 have hpe : pk L 10 = -1 := pk_end (by omega)
 constructor
 · intro h
   have hv0 := val_le ds 0 (Int.le_refl _)
   have he : elF L 0 = .ok ((val 0 ds, val 0 ds), 10) := by
    unfold elF
    rw [hlt, g1 h, h6]
    show (if pk L 10 = 45 then _ else _) = _
    rw [if_neg (by rw [hpe]; decide)]
   have hels : elsF L (L.length + 2) [] 0 = .ok [(val 0 ds, val 0 ds)] := by
    rw [show L.length + 2 = (L.length + 1) + 1 from rfl, elsF_go (by simp) he]
    exact elsF_stop (by simp) (by omega)
   have h9 := clsF_yes (n := 10) (S := [(val 0 ds, val 0 ds)]) h94 (by simpa using hels) (by simpa using (one_nrm hv0 h).symm)
   rw [h9, if_neg (by simp)]
 · intro h
   obtain ⟨j, hj⟩ := g2 h
   have he : elF L 0 = .error j := by unfold elF; rw [hlt, hj]
   have hels : elsF L (L.length + 2) [] 0 = .error j := by
    rw [show L.length + 2 = (L.length + 1) + 1 from rfl]
    exact elsF_bad (by simp) he
   exact ⟨_, clsF_err (n := 10) h94 (by simpa using hels)⟩
theorem scan_digits {L : Its} : ∀ (ds : List Nat) (k : Nat), (∀ d ∈ ds, d < 16) → At L k (ds.map hv ++ [125]) → Pm.ScanB L k (k + ds.length) := by
 intro ds k hd hA
 have h := Pm.scan_num (ds.map hv) k [] (fun c hc => by
  obtain ⟨d, h, rfl⟩ := List.mem_map.1 hc
  have := hv_ok (hd d h); omega) hA
 simpa using h
theorem re_num (s : ByteArray) (ds : List Nat) (hs : sb s = numL ds) (h6 : ds.length = 6) (hd : ∀ d ∈ ds, d < 16) :
 (ScV (val 0 ds) → Alts (all 0 (sb s)) s.size (clS s) 0 0 (.ok (.mk 2 [(val 0 ds, val 0 ds)] []) 10)) ∧ (¬ ScV (val 0 ds) → ∃ z, z ≤ 10 ∧ Alts (all 0 (sb s)) s.size (clS s) 0 0 (.bad 3 z)) ∧ (all 0 (sb s)).length = 10 := by
 have hz : s.size = 10 := by rw [← sb_len, hs, numL_len h6]
 have hcl0 : clS s 0 10 = clsF (all 0 (numL ds)) 10 := by
  have hx : s.extract 0 10 = s := by rw [← hz]; exact ByteArray.extract_zero_size
  unfold clS
  rw [hx, hs, hz]
 obtain ⟨c1, c2⟩ := cls_num h6 hd
 rw [← hcl0] at c1 c2
 have hasc : all 0 (sb s) = asc 0 (numL ds) := by rw [hs]; exact all_asc _ _ (numL_low hd)
 have hA : At (asc 0 (numL ds)) 0 (numL ds) := At.whole _ 0
 rw [hasc, hz]
 obtain ⟨L, hL⟩ : ∃ L, L = asc 0 (numL ds) := ⟨_, rfl⟩
 have hlen : L.length = 10 := by rw [hL, asc_len, numL_len h6]
 rw [← hL] at hA ⊢
 have e0 : pk L 0 = 92 := hA.head
 have e1 : pk L 1 = 117 := hA.tail.head
 have hB : At L 3 (ds.map hv ++ [125]) := hA.tail.tail.tail
 have e2 : pk L 2 = 123 := hA.tail.tail.head
 have hsc : Pm.ScanB L 2 9 := by
  have h := scan_digits ds 3 hd hB
  rw [h6] at h
  exact .go (by omega) (by rw [e2]; decide) h
 have hesc : EscTo L 1 10 := by
  have h := EscTo.num e1 hsc
  rw [hlen] at h
  exact h
 have p0 : plc L 10 0 = 0 := by rw [hL]; rfl
 have p10 : plc L 10 10 = 10 := plc_out (by omega)
 have hpe : pk L 10 = -1 := pk_end (by omega)
 have hatm : Pm.atm (pk L 0) = true := by rw [e0]; decide
 have hae : Pm.atm (pk L 10) = false := by rw [hpe]; decide
 refine ⟨fun h => ?_, fun h => ?_, hlen⟩
 · have hR : escR L 10 (clS s) (plc L 10 0) 10 = .ok (.mk 2 [(val 0 ds, val 0 ds)] []) 10 := by unfold escR; rw [p0, p10, c1 h]
   exact .mk (.some hatm (.mk (.esc e0 hesc hR.symm) (.stop (by rw [hpe]; decide))) (.stop hae)) (.stop (by rw [hpe]; decide))
 · obtain ⟨z, hz9⟩ := c2 h
   have hR : escR L 10 (clS s) (plc L 10 0) 10 = .bad 3 z := by unfold escR; rw [p0, p10, hz9]; show Rs.bad 3 (0 + z) = _; rw [Nat.zero_add]
   exact ⟨z, clsF_le (numL_len h6).symm (by rw [← hcl0]; exact hz9), .bad (.bad hatm (.bad (.esc e0 hesc hR.symm)))⟩
end Px
end Go.Proofs.YtfkmajjgkdjncaaGreatDoor

set_option maxHeartbeats 2000000
set_option maxRecDepth 100000
namespace Go.Proofs.YtfkmajjgkdjncaaGreatDoor
open Go.RowKit
theorem one6_any (r : Int) (w : World) : Calls Tryz.prog 16 #[.int .i32 r] w fun x w' => ∃ sv lv, x = .returned (.agg #[.int .i64 2, sv, lv]) ∧ ReIs w' (.mk 2 [(r, r)] []) sv lv ∧ Below w.heap.size w w' := by
 go_enter Tryz.func16, Tryz.ntmps16
 go_wp2_with fail
 obtain ⟨W1, hW1⟩ : ∃ W1, W1 = w.alloc (.cells #[.int .i64 2, .slice (some ⟨w.heap.size + 1, 0, none⟩) 1 1, .slice none 0 0] 35) := ⟨_, rfl⟩
 have hs1 : W1.heap.size = w.heap.size + 1 := by rw [hW1]; simp
 have hr1 : W1.heap[w.heap.size]? = some (.cells #[.int .i64 2, .slice (some ⟨w.heap.size + 1, 0, none⟩) 1 1, .slice none 0 0] 35 (0, 0)) := by rw [hW1]; exact heap_alloc_new w _
 have hbl : Below w.heap.size w W1 := by rw [hW1]; exact bel_new (Below.refl _ _) _
 rw [← hW1]
 clear hW1
 have hb2 := bel_new (Below.refl W1.heap.size W1) (.cells #[.int .i32 r, .int .i32 r] 79)
 have hr2 := bel_get hb2 hr1
 have hq2 := heap_alloc_new W1 (.cells #[.int .i32 r, .int .i32 r] 79)
 obtain ⟨⟨d0, d1, d2⟩, g0, g1, g2⟩ := cells3_of' hr2
 refine bodyPost_ret (v := .agg #[.int .i64 2, .slice (some ⟨w.heap.size + 1, 0, none⟩) 1 1, .slice none 0 0]) (by simp [results, Tryz.results16, go_sem, d0, d1, d2, g0, g1, g2]) rfl ⟨_, _, rfl, ?_, bel_then hbl hb2⟩
 rw [← hs1]
 refine pre_set ⟨_, 1, rfl, Nat.le_refl _, by show (1 : Nat) ≤ maxLen; decide, .inr ⟨W1.heap.size, 0, rfl, lt_of_some hq2, fun j u hu => ?_⟩⟩
 unfold World.cell?
 rw [show (⟨W1.heap.size, 0 + j, none⟩ : Addr).block = W1.heap.size from rfl, hq2]
 match j, hu with
 | 0, h => simpa [flatK] using h
 | 1, h => simpa [flatK] using h
 | j + 2, h => simp [flatK] at h
end Go.Proofs.YtfkmajjgkdjncaaGreatDoor

set_option maxHeartbeats 8000000
set_option maxRecDepth 100000
namespace Go.Proofs.YtfkmajjgkdjncaaGreatDoor
open Go.RowKit Ru Wd De
def dgs (U : Nat) : Nat → List Nat
 | 0 => []
 | n + 1 => U / 16 ^ n % 16 :: dgs U n
def hexT : ByteArray := ⟨#[48, 49, 50, 51, 52, 53, 54, 55, 56, 57, 65, 66, 67, 68, 69, 70]⟩
theorem i32_of_wf {n : Int} (h : (Lit.int .i32 n).wf = true) : -2147483648 ≤ n ∧ n ≤ 2147483647 := by
 simpa [Lit.wf, IntKind.min, IntKind.max, IntKind.bits, IntKind.signed] using h
theorem hexT_cut : ∀ k : Nat, k < 16 → sb (hexT.extract k (k + 1)) = [hv k] := by decide +kernel
theorem dgs_len (U : Nat) : ∀ n, (dgs U n).length = n
 | 0 => rfl
 | n + 1 => by rw [dgs, List.length_cons, dgs_len U n]
theorem dgs_lt (U : Nat) : ∀ n, ∀ d ∈ dgs U n, d < 16
 | 0, d, h => by cases h
 | n + 1, d, h => by
  rw [dgs] at h
  rcases List.mem_cons.1 h with rfl | h
  · exact Nat.mod_lt _ (by decide)
  · exact dgs_lt U n d h
theorem val_six (U : Nat) : Px.val 0 (dgs U 6) = ((U % 16777216 : Nat) : Int) := by
 simp only [dgs, Px.val]
 omega
def RnPost (U : Nat) (r : Int) (w : World) (x : Ending) (w' : World) : Prop :=
 ∃ (e : RE) (o1 : Option Addr) (q1 : Nat) (o2 : Option Addr) (q2 : Nat) (c z : Int), x = .returned (.tuple #[.agg #[.int .i64 e.kind, .slice o1 e.set.length q1, .slice o2 e.parts.length q2], .int .i64 c, .int .i64 z]) ∧ Below w.heap.size w w' ∧
  ((c = 0 ∧ e = .mk 2 [(((U % 16777216 : Nat) : Int), ((U % 16777216 : Nat) : Int))] [] ∧ ReIs w' e (.slice o1 e.set.length q1) (.slice o2 e.parts.length q2) ∧ Px.ScV ((U % 16777216 : Nat) : Int)) ∨ (c = 3 ∧ ¬ Px.ScV ((U % 16777216 : Nat) : Int)))
theorem runes_re (U : Nat) (r : Int) (T : ByteArray) (w : World) (hT : sb T = Px.numL (dgs U 6)) (hz : T.size = 10) (hU : U = (r % 4294967296).toNat) (h0 : -2147483648 ≤ r) (h1 : r < 2147483648) :
 Calls Tryz.prog 14 #[.string T] w (RnPost U r w) := by
 have hlow : ∀ c ∈ sb T, c < 128 := by rw [hT]; exact Px.numL_low (dgs_lt U 6)
 have hno : (46 : Int) ∉ sb T := by
  rw [hT]
  intro h
  simp only [Px.numL, List.mem_cons, List.mem_append, List.mem_map, List.not_mem_nil, or_false] at h
  rcases h with h | h | h | ⟨d, hd, h⟩ | h
  · omega
  · omega
  · omega
  · have := hv_ok (dgs_lt U 6 d hd); omega
  · omega
 have hD : ∀ p, DotC p T (all 0 (sb T)) := fun p => dotC_none (pk_byte hlow 46 hno (by decide))
 obtain ⟨k1, k2, k3⟩ := Px.re_num T (dgs U 6) hT (dgs_len U 6) (dgs_lt U 6)
 rw [val_six] at k1 k2
 by_cases hv : Px.ScV ((U % 16777216 : Nat) : Int)
 · have h := re_tot T w (by omega) _ (k1 hv) ⟨by omega, by rw [k3]; exact Nat.le_refl _⟩ hD
   unfold ReAll at h
   simp only [k3, if_true] at h
   refine h.mono ?_
   rintro x w' ⟨sv, lv, rfl, hk, hb⟩
   obtain ⟨⟨o1, q1, rfl⟩, ⟨o2, q2, rfl⟩⟩ := hk.here.form
   exact ⟨_, o1, q1, o2, q2, 0, 0, rfl, hb, .inl ⟨rfl, rfl, hk.here, hv⟩⟩
 · obtain ⟨z, hz9, hA⟩ := k2 hv
   have h := re_tot T w (by omega) _ hA ⟨.inl rfl, by omega⟩ hD
   refine h.mono ?_
   rintro x w' ⟨rfl, hb⟩
   exact ⟨.mk 0 [] [], none, 0, none, 0, 3, z, rfl, hb, .inr ⟨rfl, hv⟩⟩
theorem parseRunes_walk (r : Int) (hr : -2147483648 ≤ r ∧ r ≤ 2147483647) (w : World) :
 Calls Tryz.prog 5 #[.int .i32 r] w fun x w' => x = .returned (.bool true) ∧ Below w.heap.size w w' := by
 obtain ⟨h0, h1⟩ : -2147483648 ≤ r ∧ r < 2147483648 := ⟨hr.1, by omega⟩
 clear hr
 obtain ⟨U, hU⟩ : ∃ U : Nat, U = (r % 4294967296).toNat := ⟨_, rfl⟩
 have hu : IntKind.u32.wrap r = (U : Int) := by rw [hU]; show r % 4294967296 = _; omega
 have hUl : U < 4294967296 := by omega
 have HU := Lib.hid hU
 clear hU
 go_enter Tryz.func5, Tryz.ntmps5
 go_wp2_with fail
 go_loopg [3, 4, 5] 6 (fun g v3 v4 v5 wx => ∃ (n u : Nat) (S : ByteArray), n + g = 6 ∧ v3 = .int .u32 u ∧ u < 4294967296 ∧ u = U / 16 ^ n ∧ v4 = .string S ∧ sb S = (dgs U n).map hv ∧ v5 = .int .i64 n ∧ wx = w)
 case atStart => exact ⟨0, U, ⟨#[]⟩, rfl, rfl, hUl, by simp, rfl, rfl, rfl, rfl⟩
 case round =>
  obtain ⟨n, u, S, hng, rfl, hul, hun, rfl, hS, rfl, hw⟩ := hrel
  have hw := hw.symm
  subst hw
  have hsz : S.size ≤ 6 := by have h9 := congrArg List.length hS; rw [sb_len, List.length_map, dgs_len] at h9; omega
  have HN := Lib.hid (And.intro hun hS)
  clear hun hS
  by_cases hn : n < 6
  · have e1 : decide ((n : Int) < 6) = true := by simp; omega
    go_wp2_with fail
    obtain ⟨g, rfl⟩ : ∃ g, gk = g + 1 := ⟨gk - 1, by omega⟩
    go_roundg g
    case measure => omega
    case rel =>
     refine ⟨n + 1, u / 16, _, by omega, congrArg _ (by omega), by omega, ?_, rfl, ?_, congrArg _ (by omega), rfl⟩
     · rw [HN.out.1, Nat.div_div_eq_div_mul, Nat.pow_succ]
     · rw [show dgs U (n + 1) = U / 16 ^ n % 16 :: dgs U n from rfl, List.map_cons, sb_app, HN.out.2, ← HN.out.1]
       have h9 := hexT_cut (u % 16) (Nat.mod_lt _ (by decide))
       unfold hexT at h9
       rw [h9]
       rfl
  · obtain rfl : n = 6 := by omega
    have e1 : decide (((6 : Nat) : Int) < 6) = false := rfl
    have z1 : ¬ 9223372036854775807 < S.size + 1 := by omega
    have z2 : ¬ 9223372036854775807 < 3 + S.size := by omega
    obtain ⟨T, hT⟩ : ∃ T, T = ⟨#[92, 117, 123]⟩ ++ S ++ (⟨#[125]⟩ : ByteArray) := ⟨_, rfl⟩
    have hsT : sb T = Px.numL (dgs U 6) := by
     rw [hT, sb_app, sb_app, HN.out.2]
     show [92, 117, 123] ++ List.map hv (dgs U 6) ++ [125] = _
     simp [Px.numL]
    have hzT : T.size = 10 := by rw [← sb_len, hsT, Px.numL_len (dgs_len U 6)]
    have HU6 := Lib.hid (show u = U / 16777216 from HN.out.1)
    have HT := Lib.hid hT
    have HRE := Lib.hid (fun w => runes_re U r T w hsT hzT HU.out h0 h1)
    clear hT hsT
    clear hzT
    go_wp2_with (with_reducible rw [← HT.out])
    refine (HRE.out _).mono ?_
    rintro x w1 ⟨e, o1, q1, o2, q2, c, z, rfl, hb1, hor⟩
    have hbn := bel_new (Below.refl w1.heap.size w1) (.cells #[.int .i64 e.kind, .slice o1 e.set.length q1, .slice o2 e.parts.length q2] 35)
    have hq1 := heap_alloc_new w1 (.cells #[.int .i64 e.kind, .slice o1 e.set.length q1, .slice o2 e.parts.length q2] 35)
    have HB1 := Lib.hid (bel_then hb1 hbn)
    have HUU := Lib.hid (show U = (r % 4294967296).toNat from HU.out)
    by_cases hsc : 0 ≤ r ∧ r ≤ 1114111 ∧ ¬ (55296 ≤ r ∧ r ≤ 57343)
    · have hUr : ((U % 16777216 : Nat) : Int) = r := by have := HU.out; omega
      rw [hUr] at hor
      rcases hor with ⟨rfl, rfl, hre, _⟩ | ⟨_, hn⟩
      · have hfit : (RE.mk 2 [(r, r)] []).Fit := .mk 2 [(r, r)] [] (by intro x hx; simp at hx; subst hx; exact ⟨by omega, by omega⟩) (by simp) (by simp) (fun i e h => by simp at h)
        have hsame : (RE.mk 2 [(r, r)] []).same (.mk 2 [(r, r)] []) = true := (RE.same_iff _ _ _ (Nat.le_refl _)).2 rfl
        have HS := Lib.hid (fun so lo w' (h1 : ReIs w' (.mk 2 [(r, r)] []) (.slice o1 1 q1) (.slice o2 0 q2)) (h2 : ReIs w' (.mk 2 [(r, r)] []) so lo) => esame_all w' _ (.mk 2 [(r, r)] []) (.mk 2 [(r, r)] []) (.slice o1 1 q1) (.slice o2 0 q2) so lo w' (Nat.le_refl _) hfit hfit h1 h2 (Below.refl _ _))
        have HSM := Lib.hid hsame
        have HX := Lib.hid (show ReIs _ (.mk 2 [(r, r)] []) (.slice o1 1 q1) (.slice o2 0 q2) from hre.moved hbn)
        have t0 : decide (r < 0) = false := by simp; omega
        have t1 : decide (1114111 < r) = false := by simp; omega
        obtain ⟨⟨d0, d1, d2⟩, _⟩ := cells3_of' hq1
        have hq1 := Lib.hid hq1
        have z0 : (RE.mk 2 [(r, r)] []).kind = 2 := rfl
        have z1 : (RE.mk 2 [(r, r)] []).set.length = 1 := rfl
        have z2 : (RE.mk 2 [(r, r)] []).parts.length = 0 := rfl
        have hsu : decide (55296 ≤ r) = false ∨ (decide (55296 ≤ r) = true ∧ decide (r ≤ 57343) = false) := by
         by_cases h : 55296 ≤ r
         · exact .inr ⟨by simpa using h, by simp; omega⟩
         · exact .inl (by simpa using h)
        simp only [z0, z1, z2] at *
        clear hre hfit hsame hb1 hbn hUr hsc h0 h1
        rcases hsu with t2 | ⟨t2, t3⟩
        all_goals (
         go_wp2_with fail
         obtain ⟨W2, hW2⟩ : ∃ W2, W2 = w1.alloc (.cells #[.int .i64 2, .slice o1 1 q1, .slice o2 0 q2] 35) := ⟨_, rfl⟩
         rw [← hW2] at HB1 HX hq1 d0 d1 d2 ⊢
         clear hW2
         have HDR := Lib.hid ((Below.refl W2.heap.size W2).drew)
         go_region_law
          (first
           | (go_simp; go_at_call 9; refine (told13_any _).mono ?_; rintro x5 w5 ⟨rfl, hb5⟩; have H5 := Lib.hid (bel_then HDR.out hb5); obtain ⟨⟨f0, f1, f2⟩, _⟩ := cells3_of' (bel_get H5.out hq1.out))
           | (go_simp; go_at_call 16; refine (one6_any r _).mono ?_; rintro x6 w6 ⟨so, lo, rfl, hr6, hb6⟩; have H6 := Lib.hid (bel_then H5.out hb6); have HR6 := Lib.hid hr6; obtain ⟨⟨i0, i1, i2⟩, _⟩ := cells3_of' (bel_get H6.out hq1.out))
           | (go_simp; go_at_call 15; refine (HS.out so lo _ (HX.out.moved H6.out) HR6.out).mono ?_; rintro x7 w7 ⟨rfl, hb7⟩; rw [HSM.out]; have H7 := Lib.hid (bel_then HB1.out (bel_then H6.out hb7))))
         all_goals (
          try go_wp2_with fail
          go_ret
          exact ⟨rfl, H7.out⟩))
      · exfalso; exact hn ⟨by omega, by omega⟩
    · have h3 : c = 3 ∨ (c = 0 ∧ decide (r < 0) = true) ∨ (c = 0 ∧ decide (r < 0) = false ∧ decide (0 < u) = true) := by
       rcases hor with ⟨rfl, _, _, hv⟩ | ⟨rfl, _⟩
       · by_cases hr0 : r < 0
         · exact .inr (.inl ⟨rfl, by simpa using hr0⟩)
         · refine .inr (.inr ⟨rfl, by simpa using hr0, ?_⟩)
           have g1 := HU.out
           have g2 := HU6.out
           have g3 : ((U % 16777216 : Nat) : Int) ≤ 1114111 := hv.1
           have g4 := hv.2
           simp
           omega
       · exact .inl rfl
      have hns : decide (r < 0) = true ∨ (decide (r < 0) = false ∧ decide (1114111 < r) = true) ∨ (decide (r < 0) = false ∧ decide (1114111 < r) = false ∧ decide (55296 ≤ r) = true ∧ decide (r ≤ 57343) = true) := by
       simp only [decide_eq_true_eq, decide_eq_false_iff_not]
       omega
      have h5 : (c == 3) = decide (c = 3) := rfl
      clear hor hq1 hbn hb1 hsc h0 h1
      rcases hns with t0 | ⟨t0, t1⟩ | ⟨t0, t1, t2, t3⟩ <;> rcases h3 with rfl | ⟨rfl, t4⟩ | ⟨rfl, t4, t5⟩
      all_goals first
       | (exfalso; rw [t0] at t4; cases t4; done)
       | (go_wp2_with fail
          refine (told13_any _).mono ?_
          rintro x5 w5 ⟨rfl, hb5⟩
          have H5 := Lib.hid (bel_then HB1.out hb5)
          clear hb5
          go_wp2_with fail
          go_ret
          exact ⟨rfl, H5.out⟩)
end Go.Proofs.YtfkmajjgkdjncaaGreatDoor
